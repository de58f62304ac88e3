"""Bounds of sums: whether numbers can be found within them, or which of the bounds clash, and how much each counts.

Each variable is a number to be found, or a sum of such. At any time some variables, the basic ones, are told as sums
of multiples of the others, which stand within their bounds; what is basic is brought within its own by exchanging it
for another one.

Worths and bounds are triples (N, E, D), meaning N/D, and E/D of something that is above 0 and less than whatever has
to be: so a sum that must be below a bound, and not just at most there, has its bound less by that.
"""

from math import gcd

# How many exchanges for each variable are tried the quick way.
QUICK = 5


def triple(over, more, under):
    """The worth with these, in lowest terms; `under` isn't 0."""
    common = gcd(over, more, under)
    if under < 0:
        common = -common
    return (over // common, more // common, under // common)


def sum_of(one, other):
    """The sum of two worths."""
    return triple(one[0] * other[2] + other[0] * one[2], one[1] * other[2] + other[1] * one[2], one[2] * other[2])


def multiple(worth, over, under):
    """So many times a worth."""
    return triple(worth[0] * over, worth[1] * over, worth[2] * under)


def is_below(one, other):
    """Whether a worth is less than another one."""
    return (one[0] * other[2], one[1] * other[2]) < (other[0] * one[2], other[1] * one[2])


def greatest(rows):
    """Of rows (variable, whether it is below, by how much) the first one of those with the greatest gap."""
    best = rows[0]
    for row in rows:
        if is_below(best[2], row[2]):
            best = row
    return best


def lowest(under, table):
    """A row with its numbers in lowest terms, without those of 0."""
    common = under
    for times in table.values():
        common = gcd(common, times)
    return (under // common, {variable: times // common for variable, times in table.items() if times != 0})


def put_in(row, variable, other):
    """A row in which what the other row tells is put for a variable."""
    under, table = row
    below, told = other
    times = table[variable]
    fresh = {key: many * below for key, many in table.items() if key != variable}
    for key, many in told.items():
        fresh[key] = fresh.get(key, 0) + times * many
    return lowest(under * below, fresh)


class Simplex:
    """Variables, sums of them, and bounds."""

    def __init__(self):
        self.worths = []
        # Of each variable None, or (bound, whatever was handed in with it).
        self.lows = []
        self.highs = []
        # Of each basic variable (D, table): D times it is the sum of what the table has of each variable, times that.
        self.rows = {}
        # The basic variable of each sum.
        self.forms = {}
        # None, or as clash_of tells.
        self.clash = None

    def copied(self):
        """Another one that goes on by itself. Rows aren't changed, but others take their places."""
        other = Simplex()
        other.worths = list(self.worths)
        other.lows = list(self.lows)
        other.highs = list(self.highs)
        other.rows = dict(self.rows)
        other.forms = {form: self.forms[form] for form in self.forms}
        other.clash = self.clash
        return other

    def unbind(self):
        """Takes all bounds away; the worths stay, by which less has to be moved where others come."""
        self.lows = [None] * len(self.worths)
        self.highs = [None] * len(self.worths)
        self.clash = None

    def variable(self, worth=(0, 0, 1)):
        """The number of a new variable."""
        self.worths.append(worth)
        self.lows.append(None)
        self.highs.append(None)
        return len(self.worths) - 1

    def variable_of(self, form):
        """The number of the variable that is the sum of these pairs (variable, how many times), each variable once."""
        if len(form) == 1 and form[0][1] == 1:
            return form[0][0]
        if form not in self.forms:
            self.forms[form] = self.sum_variable(form)
        return self.forms[form]

    def sum_variable(self, terms):
        """As variable_of, of a new one."""
        row = (1, dict(terms))
        for variable, _ in terms:
            if variable in self.rows:
                row = put_in(row, variable, self.rows[variable])
        under, table = lowest(row[0], row[1])
        new = self.variable()
        self.rows[new] = (under, table)
        for variable, times in table.items():
            self.worths[new] = sum_of(self.worths[new], multiple(self.worths[variable], times, under))
        return new

    def tell_clash(self, clash):
        """Takes it that these clash, of themselves."""
        if self.clash is None:
            self.clash = clash

    def bound_above(self, variable, bound, reason):
        """Has a variable at most at a bound."""
        high = self.highs[variable]
        low = self.lows[variable]
        if self.clash is not None or (high is not None and not is_below(bound, high[0])):
            return
        self.highs[variable] = (bound, reason)
        if low is not None and is_below(bound, low[0]):
            self.clash = [(reason, 1), (low[1], -1)]
        elif variable not in self.rows and is_below(bound, self.worths[variable]):
            self.move(variable, bound)

    def bound_below(self, variable, bound, reason):
        """Has a variable at least at a bound."""
        low = self.lows[variable]
        high = self.highs[variable]
        if self.clash is not None or (low is not None and not is_below(low[0], bound)):
            return
        self.lows[variable] = (bound, reason)
        if high is not None and is_below(high[0], bound):
            self.clash = [(reason, -1), (high[1], 1)]
        elif variable not in self.rows and is_below(self.worths[variable], bound):
            self.move(variable, bound)

    def move(self, variable, worth):
        """Gives a variable that isn't basic another worth, and so those that are told by it."""
        change = sum_of(worth, multiple(self.worths[variable], -1, 1))
        self.worths[variable] = worth
        for basic, (under, table) in self.rows.items():
            if variable in table:
                self.worths[basic] = sum_of(self.worths[basic], multiple(change, table[variable], under))

    def exchange(self, basic, other):
        """Makes a variable basic in the place of one by which it can be told."""
        under, table = self.rows.pop(basic)
        times = table[other]
        turned = {basic: under if times > 0 else -under}
        for variable, many in table.items():
            if variable != other:
                turned[variable] = -many if times > 0 else many
        row = lowest(abs(times), turned)
        for variable in list(self.rows):
            if other in self.rows[variable][1]:
                self.rows[variable] = put_in(self.rows[variable], other, row)
        self.rows[other] = row

    def all_amiss(self):
        """The basic variables that aren't within their bounds, rising: (variable, whether it is below, by how much)."""
        found = []
        for variable in sorted(self.rows):
            worth = self.worths[variable]
            low = self.lows[variable]
            high = self.highs[variable]
            if low is not None and is_below(worth, low[0]):
                found.append((variable, True, sum_of(low[0], multiple(worth, -1, 1))))
            elif high is not None and is_below(high[0], worth):
                found.append((variable, False, sum_of(worth, multiple(high[0], -1, 1))))
        return found

    def can_move(self, variable, is_up):
        """Whether a variable that isn't basic can have more, or less."""
        bound = self.highs[variable] if is_up else self.lows[variable]
        if bound is None:
            return True
        worth = self.worths[variable]
        return is_below(worth, bound[0]) if is_up else is_below(bound[0], worth)

    def settle(self):
        """Brings all within their bounds; False where that can't be, and `clash` tells why."""
        # To take the greatest is quick but may go round and round; to take the first comes to an end.
        quick = QUICK * len(self.worths)
        while self.clash is None:
            found = self.all_amiss()
            if len(found) == 0:
                return True
            variable, is_up, gap = greatest(found) if quick > 0 else found[0]
            quick -= 1
            under, table = self.rows[variable]
            others = [other for other in sorted(table) if self.can_move(other, (table[other] > 0) == is_up)]
            if len(others) == 0:
                self.clash = self.clash_of(variable, is_up)
            else:
                other = max(others, key=lambda one: abs(table[one])) if quick > 0 else others[0]
                change = multiple(gap, under if is_up else -under, table[other])
                self.move(other, sum_of(self.worths[other], change))
                self.exchange(variable, other)
        return False

    def clash_of(self, variable, is_up):
        """What clashes: pairs of what came with a bound and how many times it counts, below 0 of bounds from below.

        Each bound from above tells of a variable less the bound that it is at most 0, each from below of that that it
        is at least 0. So many times each of them comes to a number alone, which can't be at most 0.
        """
        under, table = self.rows[variable]
        clash = [(self.lows[variable][1], -under) if is_up else (self.highs[variable][1], under)]
        for other, times in table.items():
            # Where the variable is to be more, those that count for it stand at their bounds from above.
            bound = self.highs[other] if (times > 0) == is_up else self.lows[other]
            clash.append((bound[1], times if is_up else -times))
        return clash

    def little(self):
        """A FRACTION, above 0, at most 1, which is little enough to be put for what is less than whatever has to be."""
        over, under = 1, 1
        for worth, low, high in zip(self.worths, self.lows, self.highs):
            pairs = [] if low is None else [(low[0], worth)]
            pairs = pairs if high is None else pairs + [(worth, high[0])]
            for one, other in pairs:
                gap = other[0] * one[2] - one[0] * other[2]
                more = one[1] * other[2] - other[1] * one[2]
                if more > 0 and gap * under < over * more:
                    over, under = gap, more
        return (over, under)

    def first_numbers(self, count):
        """The numbers found for the first so many variables, as pairs (over, under)."""
        over, under = self.little()
        found = [triple(worth[0] * under + worth[1] * over, 0, worth[2] * under) for worth in self.worths[:count]]
        return [(number[0], number[2]) for number in found]
