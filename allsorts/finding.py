"""Numbers by which sums are at most 0, below 0, 0, or not 0, as they are told to be; or how these clash.

A sum is a number, a table of how many times each unknown is in it, and the word of what is told of it: "most",
"below", "zero" or "unlike". Sums that aren't 0 are looked at behind all others: where each of them alone can be had
with those others, all of them can be had, somewhere between the numbers for the one and those for the next one.
"""

from math import gcd

from allsorts.ratios import ZERO, product_of, ratio, sum_of
from allsorts.simplex import Simplex, triple


def weights_of(clash):
    """How many times each sum, by its place, counts in what a simplex tells of a clash."""
    weights = {}
    for (at, scale), times in clash:
        weights[at] = sum_of(weights.get(at, ZERO), ratio(times, scale))
    return weights


def sum_at(row, places, point):
    """What a sum comes to where the unknowns are these numbers."""
    number, table, _ = row
    total = (number, 1)
    for text, times in table.items():
        total = sum_of(total, product_of((times, 1), point[places[text]]))
    return total


def between(one, other, ends):
    """Numbers on the way from one to the other, by which none of some sums is 0.

    `ends` are pairs of what each of these sums comes to by the one and by the other, not both of them 0.
    """
    steps = 1
    while any([sum_of(product_of((steps - 1, 1), first), last) == ZERO for first, last in ends]):
        steps += 1
    ahead = (steps - 1, steps)
    return [sum_of(product_of(ahead, first), product_of((1, steps), last)) for first, last in zip(one, other)]


def clash_of_number(number, word):
    """How many times a number, told so of itself, comes to what can't be: 0 where it can."""
    if number == 0:
        return 1 if word == "below" else 0
    if number > 0:
        return 1
    return -1 if word == "zero" else 0


def form_of(terms):
    """Pairs (unknown, how many times), as a number and pairs without a common divisor, the first one above 0."""
    scale = 0
    for _, times in terms:
        scale = gcd(scale, times)
    if terms[0][1] < 0:
        scale = -scale
    return (scale, tuple([(unknown, times // scale) for unknown, times in terms]))


class Finding:
    """Some sums, and what is found of them."""

    def __init__(self, rows, texts):
        self.rows = rows
        self.places = {}
        # Where they clash: how many times each counts, once, or twice where it is a sum that isn't 0, below and above.
        self.weights = []
        self.apart_at = None
        self.simplex = Simplex()
        for text in texts:
            self.places[text] = self.simplex.variable()
        for at, row in enumerate(rows):
            if row[2] != "unlike":
                self.bind(self.simplex, at, row)

    def bind(self, simplex, at, row):
        """Binds in a simplex what the sum at that place is told to be."""
        number, table, word = row
        terms = [(self.places[text], table[text]) for text in sorted(table) if table[text] != 0]
        if len(terms) == 0:
            times = clash_of_number(number, word)
            if times != 0:
                simplex.tell_clash([((at, 1), times)])
            return
        scale, form = form_of(terms)
        variable = simplex.variable_of(form)
        # What is to be below is less by something that is less than whatever else has to be.
        bound = triple(-number, -abs(scale) if word == "below" else 0, scale)
        if word == "zero" or scale > 0:
            simplex.bound_above(variable, bound, (at, scale))
        if word == "zero" or scale < 0:
            simplex.bound_below(variable, bound, (at, scale))

    def apart(self, at):
        """Numbers by which the sum at that place isn't 0, and those told of the others hold; None if there are none."""
        number, table, _ = self.rows[at]
        weights = []
        for sign in (1, -1):
            simplex = self.simplex.copied()
            turned = {text: sign * times for text, times in table.items()}
            self.bind(simplex, at, (sign * number, turned, "below"))
            if simplex.settle():
                return simplex.first_numbers(len(self.places))
            weights.append(weights_of(simplex.clash))
        self.weights = weights
        self.apart_at = at
        return None

    def look_for(self):
        """A list of FRACTIONS, one for each unknown, by which all is as it is told; None if there are none."""
        if not self.simplex.settle():
            self.weights = [weights_of(self.simplex.clash)]
            return None
        point = self.simplex.first_numbers(len(self.places))
        held = []
        for at, row in enumerate(self.rows):
            if row[2] == "unlike":
                held.append(row)
                if sum_at(row, self.places, point) == ZERO:
                    other = self.apart(at)
                    if other is None:
                        return None
                    ends = [(sum_at(one, self.places, point), sum_at(one, self.places, other)) for one in held]
                    point = between(point, other, ends)
        return point
