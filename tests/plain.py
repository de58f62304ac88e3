"""Plain ways to the same answers, slow and short, that the tests compare the program with; and chance with a seed."""

import itertools
from fractions import Fraction

from allsorts.clauses import clause_of, turned_right

LETTERS = "abcdefghijklmnopqrstuvwxyz"
TERM_WORDS = {"plus": 2, "tip": 1, "node": 2, "none": 0, "one": 1, "union": 2, "both": 2, "without": 2, "band": 2,
              "bor": 2, "badd": 2, "bnot": 1}
SORTS = ("thing", "num", "tree", "set", "bits")


class PlainReading:
    """Tries all ways in which a text may be one that is told loosely; `furthest` is where the last way ends."""

    def __init__(self, text):
        self.text = text
        self.furthest = 0

    def sign(self, at, signs):
        """The ends of one sign that is among these."""
        self.furthest = max(self.furthest, at)
        return [at + 1] if at < len(self.text) and self.text[at] in signs else []

    def row(self, at, makers):
        ends = [at]
        for maker in makers:
            ends = [end for start in ends for end in maker(start)]
        return ends

    def any_of(self, at, rows):
        return sorted({end for row in rows for end in self.row(at, row)})

    def word(self, text):
        return [lambda at, sign=sign: self.sign(at, sign) for sign in text]

    def name(self, at):
        return self.any_of(at, [[lambda at: self.sign(at, LETTERS)] * count for count in range(1, 7)])

    def sort(self, at):
        return self.any_of(at, [self.word(sort) for sort in SORTS])

    def figures(self, most):
        first = [lambda at: self.sign(at, "123456789")]
        more = [lambda at: self.sign(at, "0123456789")]
        return lambda at: self.any_of(at, [self.word("0")] + [first + more * count for count in range(most)])

    def number(self, at):
        below = [lambda at: self.sign(at, "-"), lambda at: self.row(at, [lambda at: self.sign(at, "123456789")])]
        more = [lambda at: self.sign(at, "0123456789")]
        return self.any_of(at, [[self.figures(7)]] + [below + more * count for count in range(7)])

    def listed(self, maker, fewest, most):
        rows = []
        for count in range(fewest, most + 1):
            row = []
            for number in range(count):
                row += (self.word(",") if number > 0 else []) + [maker]
            rows.append(row)
        return rows

    def term(self, at):
        rows = [[self.number], self.word("#") + [self.figures(2)], [self.name] + self.word(":") + [self.sort]]
        rows.append(self.word("times(") + [self.number] + self.word(",") + [self.term] + self.word(")"))
        for row in self.listed(self.term, 1, 3):
            rows.append([self.name] + self.word(":") + [self.sort] + self.word("(") + row + self.word(")"))
        for word, count in TERM_WORDS.items():
            rows.append(self.word(word + "(") + self.listed(self.term, count, count)[0] + self.word(")"))
        return self.any_of(at, rows)

    def saying(self, at):
        rows = [[self.name] + self.word("?"), self.word("not(") + [self.saying] + self.word(")")]
        for word in ("same", "most", "in"):
            rows.append(self.word(word + "(") + [self.term] + self.word(",") + [self.term] + self.word(")"))
        rows.append(self.word("bit(") + [lambda at: self.sign(at,
                                                              "0123")] + self.word(",") + [self.term] + self.word(")"))
        for word in ("and", "or"):
            for row in self.listed(self.saying, 0, 6):
                rows.append(self.word(word + "(") + row + self.word(")"))
        return self.any_of(at, rows)


def plain_place(text, kind):
    """Whether all of a text may stand so, and else the place of the first sign that can't."""
    reading = PlainReading(text)
    ends = reading.term(0) if kind == "term" else reading.saying(0)
    return None if len(text) in ends else max([reading.furthest] + ends)


def inner_of(thing):
    """The terms straight in a term or an atom."""
    if thing[0] == "call":
        return thing[2]
    return tuple(part for part in thing[1:] if isinstance(part, tuple))


def head_of(thing):
    return thing[:2] + thing[3:] + (len(thing[2]),) if thing[0] == "call" else tuple(
        part for part in thing if not isinstance(part, tuple)) + (len(inner_of(thing)),)


def parts_of(thing):
    """All terms in a term or an atom, it too where it is a term."""
    found = [] if thing[0] in ("prop", "same", "most", "in", "bit") else [thing]
    for inner in inner_of(thing):
        found += parts_of(inner)
    return found


class PlainTies:
    """Goes round over all pairs of terms till no tie comes any more."""

    def __init__(self, lot, of_trees=False):
        self.lot = lot
        self.parts = list(dict.fromkeys(part for atom, _ in lot for part in parts_of(atom)))
        self.root = {part: number for number, part in enumerate(self.parts)}
        told = [atom[1:] for atom, truth in lot if atom[0] == "same" and truth]
        for one, other in told:
            self.tie(one, other)
        while self.goes_round(of_trees):
            pass

    def tie(self, one, other):
        if self.root[one] == self.root[other]:
            return False
        gone, kept = self.root[one], self.root[other]
        self.root = {part: kept if root == gone else root for part, root in self.root.items()}
        return True

    def alike(self, one, other):
        pairs = zip(inner_of(one), inner_of(other))
        return head_of(one) == head_of(other) and all(self.root[first] == self.root[last] for first, last in pairs)

    def goes_round(self, of_trees):
        came = False
        for one, other in itertools.combinations(self.parts, 2):
            if self.alike(one, other):
                came = self.tie(one, other) or came
            if of_trees and self.root[one] == self.root[other] and one[0] == other[0] and one[0] in ("tip", "node"):
                for first, last in zip(one[1:], other[1:]):
                    came = self.tie(first, last) or came
        return came

    def torn(self):
        for atom, truth in self.lot:
            if atom[0] == "same" and not truth and self.root[atom[1]] == self.root[atom[2]]:
                return True
        told = [row for row in self.lot if row[0][0] in ("most", "in", "bit")]
        return any(one[1] != other[1] and self.alike(one[0], other[0]) for one,
                   other in itertools.combinations(told, 2))

    def no_trees(self):
        if any(not truth and self.root[atom[1]] == self.root[atom[2]] for atom, truth in self.lot):
            return True
        words, within = {}, {}
        for part in self.parts:
            if part[0] in ("tip", "node"):
                if words.setdefault(self.root[part], part[0]) != part[0]:
                    return True
            if part[0] == "node":
                within.setdefault(self.root[part], set()).update(self.root[inner] for inner in part[1:])
        # Whatever has nothing in it that is left is taken away; a ring stays.
        while any(not inner & set(within) for inner in within.values()):
            within = {root: inner for root, inner in within.items() if inner & set(within)}
        return bool(within)


def plain_lot_of_trees(lot):
    """The literals of a lot that trees look at."""
    return tuple(row for row in lot if row[0][0] == "same" and plain_sort(row[0][1]) in ("num", "tree"))


def plain_sort(term):
    if term[0] in ("name", "call"):
        return term[-1]
    for sort, words in (("num", "number plus times"), ("tree", "tip node"), ("set", "none one union both without")):
        if term[0] in words.split():
            return sort
    return "bits"


def chance_term(chance, sort, deep, names):
    """A term by chance; `names` has of each sort what is taken where it ends."""
    if deep == 0 or chance.random() < 0.3:
        return chance.choice(names[sort])
    inner = lambda sort: chance_term(chance, sort, deep - 1, names)
    if chance.random() < 0.3:
        sorts = chance.choice([("num",), ("tree", "num"), ("set", "bits", "thing")])
        return ("call", "f" + LETTERS[len(sorts)], tuple(inner(one) for one in sorts), sort)
    if sort == "num":
        return chance.choice([lambda: ("plus", inner("num"), inner("num")),
                              lambda: ("times", chance.randint(-3, 3), inner("num"))])()
    if sort == "tree":
        return chance.choice([lambda: ("tip", inner("num")), lambda: ("node", inner("tree"), inner("tree"))])()
    if sort == "set":
        word = chance.choice(["one", "union", "both", "without"])
        return ("one", inner("num")) if word == "one" else (word, inner("set"), inner("set"))
    if sort == "bits":
        word = chance.choice(["bnot", "band", "bor", "badd"])
        return ("bnot", inner("bits")) if word == "bnot" else (word, inner("bits"), inner("bits"))
    return chance.choice(names[sort])


NAMES = {
    "thing": [("name", "o", "thing")],
    "num": [("name", "x", "num"), ("name", "y", "num"), ("number", 0), ("number", 1)],
    "tree": [("name", "t", "tree"), ("name", "u", "tree")],
    "set": [("name", "s", "set"), ("none",)],
    "bits": [("name", "b", "bits"), ("bits", 5)],
}


def chance_atom(chance, words, deep, names=None):
    names = NAMES if names is None else names
    word = chance.choice(words)
    inner = lambda sort: chance_term(chance, sort, chance.randint(0, deep), names)
    if word == "prop":
        return ("prop", chance.choice("pqr"))
    if word == "most":
        return ("most", inner("num"), inner("num"))
    if word == "in":
        return ("in", inner("num"), inner("set"))
    if word == "bit":
        return ("bit", chance.randint(0, 3), inner("bits"))
    sort = word if word in SORTS else chance.choice(SORTS)
    return turned_right(("same", inner(sort), inner(sort)))


def chance_lot(chance, words, many, deep, share=0.6, names=None):
    """A LOT by chance, of at most so many literals, such a share of them with True."""
    told = {}
    for _ in range(chance.randint(0, many)):
        told.setdefault(chance_atom(chance, words, deep, names), chance.random() < share)
    return clause_of(list(told.items()))


def number_of(term, numbers):
    """What a term of "num" comes to, by numbers for its unknowns."""
    if term[0] == "number":
        return Fraction(term[1])
    if term[0] == "plus":
        return number_of(term[1], numbers) + number_of(term[2], numbers)
    if term[0] == "times":
        return term[1] * number_of(term[2], numbers)
    return numbers[term]


def unknowns_of(term):
    if term[0] == "number":
        return []
    if term[0] in ("plus", "times"):
        return [one for inner in inner_of(term) for one in unknowns_of(inner)]
    return [term]


def all_truths(things):
    """All dicts that tell a truth of each of these."""
    for truths in itertools.product([False, True], repeat=len(things)):
        yield dict(zip(things, truths))
