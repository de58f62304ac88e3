"""FRACTIONS, pairs of whole numbers in lowest terms, and how to reckon with them."""

from math import gcd

ZERO = (0, 1)


def ratio(over, under):
    """The FRACTION that two whole numbers make, the second one not 0."""
    common = gcd(over, under)
    if under < 0:
        common = -common
    return (over // common, under // common)


def sum_of(one, other):
    """The sum of two FRACTIONS."""
    return ratio(one[0] * other[1] + other[0] * one[1], one[1] * other[1])


def product_of(one, other):
    """The product of two FRACTIONS."""
    return ratio(one[0] * other[0], one[1] * other[1])


def is_below(one, other):
    """Whether a FRACTION is less than another one."""
    return one[0] * other[1] < other[0] * one[1]
