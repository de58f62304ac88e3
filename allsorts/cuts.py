"""Cutting what clashes in two, where much clashed already.

Where terms are tied, or follow on each other, by a long way, and each step of it was one of several that could be
chosen, each choice would clash by itself. So it is asked, too, of two terms on the way whether they are the same, or
the one is at most the other: what clashes up to there and what clashes from there on are two clauses then, and which
steps led there doesn't matter for the other one.
"""

SHORT = 4


class Cuts:
    """The signs of atoms between, and how often each term stood on a way."""

    def __init__(self):
        self.signs = {}
        self.often = {}

    def ahead(self, literals):
        """These literals, those of atoms between ahead: for they stand for a long way."""
        if len(self.signs) == 0:
            return literals
        return sorted(literals, key=lambda one: 0 if one >> 1 in self.signs else 1)

    def place_of(self, way):
        """The place within a way, neither its first nor its last one, of the term that stood on most ways."""
        for number in way[1:-1]:
            self.often[number] = self.often.get(number, 0) + 1
        best = len(way) // 2
        for place in range(1, len(way) - 1):
            if self.often[way[place]] > self.often[way[best]]:
                best = place
        return best

    def cut(self, judge, there):
        """None, or of what clashes: the word and terms of an atom, the literals by which it follows, and the others.

        The word is "" where fewer literals were found that clash: they stand ahead then. `there` tells of each
        literal whether it is there.
        """
        word, literals, pairs = judge.clash
        if word == "ties":
            return self.cut_ties(judge, literals, pairs)
        if word == "sums" and len(pairs) == 0:
            return self.cut_sums(judge.table, literals, there)
        return None

    def cut_ties(self, judge, literals, pairs):
        """As cut, of pairs that are tied: the longest way is cut."""
        ways = [[pair[0]] + [to for _, to, _ in judge.closure.path(pair[0], pair[1])] for pair in pairs]
        longest = max([len(way) for way in ways])
        if longest <= SHORT:
            return None
        at = [len(way) for way in ways].index(longest)
        way = ways[at]
        middle = way[self.place_of(way)]
        ahead = judge.literals_of(("ties", (), ((way[0], middle),)))
        rest = tuple(pairs[:at]) + ((middle, way[-1]),) + tuple(pairs[at + 1:])
        return ("same", (way[0], middle), ahead, judge.literals_of(("ties", literals, rest)))

    def cut_sums(self, table, literals, there):
        """As cut, of literals by which each term is at most the next one, the last one at most the first one."""
        steps = ring_of_steps(table, literals)
        if steps is None or len(steps) <= SHORT:
            return None
        steps = straight(table, there, back_sooner(table, there, steps))
        if len(steps) <= SHORT:
            return ("", (), [literal for _, _, literal in steps], [])
        place = self.place_of([one for one, _, _ in steps] + [steps[0][0]])
        ahead = [literal for _, _, literal in steps[:place]]
        behind = [literal for _, _, literal in steps[place:]]
        return ("most", (steps[0][0], steps[place][0]), ahead, behind)


def most_between(table, steps, first, last):
    """The sign of its being asked whether one term of a ring is at most another one; None if it isn't asked."""
    return table.by_places.get(("most", 0, steps[first][0], steps[last][0]), None)


def back_sooner(table, there, steps):
    """The shortest ring that goes some of these steps and back by its being told that this can't be, or all of it."""
    for width in range(2, len(steps) - 1):
        for first in range(len(steps) - width):
            last = first + width
            sign = most_between(table, steps, first, last)
            if sign is not None and there[2 * sign]:
                return steps[first:last] + [(steps[last][0], steps[first][0], 2 * sign)]
    return steps


def straight(table, there, steps):
    """A ring that goes straight from one term to a later one, as far as that is told."""
    found = []
    first = 0
    while first < len(steps):
        step = steps[first]
        after = first + 1
        for last in range(first + 2, len(steps)):
            sign = most_between(table, steps, first, last)
            if sign is not None and there[2 * sign + 1]:
                step = (steps[first][0], steps[last][0], 2 * sign + 1)
                after = last
        found.append(step)
        first = after
    return found


def steps_of(table, literal):
    """The steps (term, next term) that a literal of sums allows: from each to one that it is at most."""
    one, other = table.atom_places[literal >> 1]
    if table.words[literal >> 1] == "most":
        return [(one, other)] if literal & 1 == 1 else [(other, one)]
    return [(one, other), (other, one)] if literal & 1 == 1 else []


def is_strict(table, literal):
    """Whether a literal tells that a term is less than another one."""
    return table.words[literal >> 1] == "most" and literal & 1 == 0


def ring_of_steps(table, literals):
    """Steps (term, next term, literal) from one to the next, the last one to the first, of all literals, each once.

    By the last step a term is less than the first one: so these literals clash. None if they make no such ring, or a
    term comes twice.
    """
    strict = [literal for literal in literals if is_strict(table, literal)]
    if len(strict) == 0:
        return None
    start, at = steps_of(table, strict[0])[0]
    last = (start, at, strict[0])
    left = [literal for literal in literals if literal != strict[0]]
    ring = []
    while len(left) > 0:
        found = [(one, other, literal) for literal in left for one, other in steps_of(table, literal) if one == at]
        if len(found) != 1:
            return None
        ring.append(found[0])
        at = found[0][1]
        left.remove(found[0][2])
    ring.append(last)
    terms = [one for one, _, _ in ring]
    return ring if at == start and len(set(terms)) == len(terms) else None
