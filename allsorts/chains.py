"""CHAINS and their ends, as they are handed in: whether each row is so."""

from allsorts.closure import head_of
from allsorts.sayings import inner_things
from allsorts.terms import has_word, is_term


def is_number(thing, count):
    """Whether anything is a whole number from 0 on, below the count."""
    return type(thing) == int and 0 <= thing < count


def is_same_of(lot, number, truth, one, other):
    """Whether the literal of that number is same, with that truth, of two terms in one order or the other."""
    if not is_number(number, len(lot)):
        return False
    atom, told = lot[number]
    return atom[0] == "same" and told == truth and (atom[1:] == (one, other) or atom[1:] == (other, one))


def are_rows(chain, ahead, numbers, ones, others):
    """Whether anything is a tuple of numbers of rows, of the first so many, one for each of these pairs of terms."""
    if type(numbers) != tuple or len(numbers) != len(ones):
        return False
    for number, one, other in zip(numbers, ones, others):
        if not is_number(number, ahead) or chain[number][:2] != (one, other):
            return False
    return True


def is_within(chain, at, rows):
    """Whether a row is so by ("within", rows)."""
    one, other, _ = chain[at]
    if head_of(one) != head_of(other):
        return False
    return are_rows(chain, at, rows, inner_things(one), inner_things(other))


def is_through(chain, at, first, second):
    """Whether a row is so by ("through", first, second)."""
    if not is_number(first, at) or not is_number(second, at):
        return False
    one, other, _ = chain[at]
    return chain[first][0] == one and chain[first][1] == chain[second][0] and chain[second][1] == other


def is_inner(chain, at, row, place):
    """Whether a row is so by ("inner", row, place)."""
    if not is_number(row, at):
        return False
    one, other, _ = chain[row]
    if one[0] not in ("tip", "node") or one[0] != other[0] or not is_number(place, len(one) - 1):
        return False
    return chain[at][:2] == (one[1 + place], other[1 + place])


def is_row_so(lot, chain, at, is_of_trees):
    """Whether anything that stands at that place of a chain is a row, and is so, by those ahead."""
    row = chain[at]
    if type(row) != tuple or len(row) != 3 or not is_term(row[0]) or not is_term(row[1]) or not has_word(row[2]):
        return False
    one, other, why = row
    if why[0] == "itself":
        return len(why) == 1 and one == other
    if why[0] == "told":
        return len(why) == 2 and is_same_of(lot, why[1], True, one, other)
    if why[0] == "turned":
        return len(why) == 2 and is_number(why[1], at) and chain[why[1]][:2] == (other, one)
    if why[0] == "through":
        return len(why) == 3 and is_through(chain, at, why[1], why[2])
    if why[0] == "within":
        return len(why) == 2 and is_within(chain, at, why[1])
    return why[0] == "inner" and is_of_trees and len(why) == 3 and is_inner(chain, at, why[1], why[2])


def is_chain(lot, chain, is_of_trees):
    """Whether anything is a CHAIN by a LOT; with ("inner", ..) where it is of trees."""
    if type(chain) != tuple:
        return False
    for at in range(len(chain)):
        if not is_row_so(lot, chain, at, is_of_trees):
            return False
    return True


def is_unlike(lot, chain, end):
    """Whether anything with the word in front is an end ("unlike", K, I)."""
    if len(end) != 3 or not is_number(end[2], len(chain)):
        return False
    one, other, _ = chain[end[2]]
    return is_same_of(lot, end[1], False, one, other)


def is_apart(lot, chain, end):
    """Whether anything with the word in front is an end ("apart", K, J, ROWS)."""
    if len(end) != 4 or not is_number(end[1], len(lot)) or not is_number(end[2], len(lot)):
        return False
    one, truth = lot[end[1]]
    other, truth_of_other = lot[end[2]]
    if not truth or truth_of_other or one[0] not in ("most", "in", "bit") or head_of(one) != head_of(other):
        return False
    return are_rows(chain, len(chain), end[3], inner_things(one), inner_things(other))


def is_pair(thing):
    """Whether anything is a pair."""
    return type(thing) == tuple and len(thing) == 2
