"""Sums of the terms of a table, what is told of them, and numbers by which it is so.

One simplex is kept for all that is asked: what is told comes and goes, but the sums stay, and the numbers found last,
of which not much has to be changed. Whatever is told comes with its source, by which a clash tells whence it is.
"""

from allsorts.finding import between, clash_of_number, form_of
from allsorts.ratios import product_of, sum_of
from allsorts.simplex import Simplex, multiple, triple


def is_zero(worth):
    """Whether a worth is 0."""
    return worth[0] == 0 and worth[1] == 0


def lesser(one, other):
    """The lesser of two worths, None being more than any."""
    if one is None or other is None:
        return other if one is None else one
    gap = (one[0] * other[2] - other[0] * one[2], one[1] * other[2] - other[1] * one[2])
    return one if gap < (0, 0) else other


def room_of(worth, low, high):
    """How far a worth may go down and up within its bounds, None being without end."""
    down = None if low is None else gap_of(worth, low[0])
    up = None if high is None else gap_of(high[0], worth)
    return (down, up)


def gap_of(one, other):
    """By how much a worth is more than another one."""
    return triple(one[0] * other[2] - other[0] * one[2], one[1] * other[2] - other[1] * one[2], one[2] * other[2])


class Bounds:
    """What is told of sums, and numbers for their unknowns."""

    def __init__(self, table):
        self.table = table
        self.simplex = Simplex()
        self.variables = {}
        self.sums = {}
        self.gaps = {}
        # Numbers for the unknowns, by their variables.
        self.point = []

    def unknown(self, number):
        """The variable of a name or a call. They begin at numbers of which no two are likely to come to be the same."""
        if number not in self.variables:
            many = len(self.variables)
            self.variables[number] = self.simplex.variable((100 + 37 * many + many * many, 0, 1))
        return self.variables[number]

    def sum_of_term(self, number):
        """A term as a number and a table, of each variable how many times it is in it."""
        if number not in self.sums:
            self.sums[number] = self.new_sum(number, self.table.closure.terms[number])
        return self.sums[number]

    def new_sum(self, number, term):
        """As sum_of_term, of a term that wasn't asked for yet."""
        places = self.table.closure.places[number]
        if term[0] == "number":
            return (term[1], {})
        if term[0] == "times":
            many, table = self.sum_of_term(places[0])
            return (term[1] * many, {variable: term[1] * times for variable, times in table.items()})
        if term[0] == "plus":
            one, other = [self.sum_of_term(place) for place in places]
            return (one[0] + other[0], added(one[1], other[1], 1))
        return (0, {self.unknown(number): 1})

    def gap(self, one, other):
        """Of two terms what the first less the second one is: a number, and so many times a variable.

        The variable is None where it is the number alone.
        """
        if (one, other) not in self.gaps:
            first, second = self.sum_of_term(one), self.sum_of_term(other)
            table = added(first[1], second[1], -1)
            terms = [(variable, table[variable]) for variable in sorted(table) if table[variable] != 0]
            number = first[0] - second[0]
            if len(terms) == 0:
                self.gaps[(one, other)] = (number, 0, None)
            else:
                scale, form = form_of(terms)
                self.gaps[(one, other)] = (number, scale, self.simplex.variable_of(form))
        return self.gaps[(one, other)]

    def tell(self, one, other, word, source):
        """Tells that a term less another one is at most 0 ("most"), below it ("below"), or 0 ("zero")."""
        number, scale, variable = self.gap(one, other)
        if variable is None:
            if clash_of_number(number, word) != 0:
                self.simplex.tell_clash([((source, 1), 1)])
            return
        bound = triple(-number, -abs(scale) if word == "below" else 0, scale)
        if word == "zero" or scale > 0:
            self.simplex.bound_above(variable, bound, (source, scale))
        if word == "zero" or scale < 0:
            self.simplex.bound_below(variable, bound, (source, scale))

    def sources_of_clash(self):
        """The sources of what clashes, each once."""
        found = {}
        for (source, _), _ in self.simplex.clash:
            found[source] = True
        return list(found)

    def settle(self):
        """Whether numbers can be found; the point is of such ones then."""
        if not self.simplex.settle():
            return False
        self.point = self.simplex.first_numbers(len(self.simplex.worths))
        return True

    def number_of(self, number):
        """What a term of "num" comes to at the point."""
        return self.number_at(number, self.point)

    def number_at(self, number, point):
        """What a term of "num" comes to by these numbers for the variables."""
        many, table = self.sum_of_term(number)
        self.cover(point)
        total = (many, 1)
        for variable, times in table.items():
            total = sum_of(total, product_of((times, 1), point[variable]))
        return total

    def cover(self, point):
        """Has numbers for the unknowns, too, that came behind the point: bound to nothing, they stay as they began."""
        for worth in self.simplex.worths[len(point):]:
            point.append((worth[0], worth[2]))

    def seems_at_most(self, one, other):
        """Whether a term is at most another one by the numbers found last, good or not."""
        number, scale, variable = self.gap(one, other)
        if variable is None:
            return number <= 0
        worth = self.simplex.worths[variable]
        return (number * worth[2] + scale * worth[0], scale * worth[1]) <= (0, 0)

    def try_apart(self, one, other, held):
        """None where two terms can be unlike, and the point is of such numbers then; else a list of sources.

        `held` are pairs of terms that are unlike at the point, and stay so.
        """
        # The variable of the gap must be there ahead of the bounds' being kept.
        self.gap(one, other)
        self.gap(other, one)
        self.cover(self.point)
        simplex = self.simplex
        lows, highs = simplex.lows, simplex.highs
        found = {}
        point = None
        for first, second in ((one, other), (other, one)):
            if point is None:
                simplex.lows, simplex.highs, simplex.clash = list(lows), list(highs), None
                self.tell(first, second, "below", None)
                if simplex.settle():
                    point = simplex.first_numbers(len(simplex.worths))
                else:
                    for source in self.sources_of_clash():
                        found[source] = True
        simplex.lows, simplex.highs, simplex.clash = lows, highs, None
        if point is None:
            return [source for source in found if source is not None]
        self.go_to(point, held + [(one, other)])
        return None

    def go_to(self, point, held):
        """Takes for the point another one, between it and the other numbers, at which these pairs are unlike."""
        ends = [(self.gap_at(pair, self.point), self.gap_at(pair, point)) for pair in held]
        self.point = between(self.point, point, ends)

    def gap_at(self, pair, point):
        """By how much the first of two terms is more than the second one at a point."""
        return sum_of(self.number_at(pair[0], point), product_of((-1, 1), self.number_at(pair[1], point)))

    def spread(self):
        """Moves what can be moved within its bounds, each by another share, so that less comes to be the same."""
        simplex = self.simplex
        many = 0
        for variable in range(len(simplex.worths)):
            if variable not in simplex.rows:
                down, up = self.room(variable)
                change = share_of(down, up, many)
                many += 1
                if not is_zero(change):
                    simplex.move(variable, gap_of(simplex.worths[variable], multiple(change, -1, 1)))
        self.point = simplex.first_numbers(len(simplex.worths))

    def room(self, variable):
        """How far a variable that isn't basic may go down and up."""
        simplex = self.simplex
        down, up = room_of(simplex.worths[variable], simplex.lows[variable], simplex.highs[variable])
        for basic, (under, table) in simplex.rows.items():
            if variable in table:
                below, above = room_of(simplex.worths[basic], simplex.lows[basic], simplex.highs[basic])
                times = table[variable]
                if times < 0:
                    below, above = above, below
                if below is not None:
                    down = lesser(down, multiple(below, under, abs(times)))
                if above is not None:
                    up = lesser(up, multiple(above, under, abs(times)))
        return (down, up)


def added(one, other, times):
    """The table of a sum of two, the second one so many times."""
    table = dict(one)
    for variable, many in other.items():
        table[variable] = table.get(variable, 0) + times * many
    return table


def share_of(down, up, many):
    """How far to move what may go down and up so far; by another share for each number."""
    if up is None:
        return (many + 1, 0, 1)
    if down is None:
        return (-many - 1, 0, 1)
    if lesser(down, up) == down:
        return multiple(up, 1, many + 2)
    return multiple(down, -1, many + 2)
