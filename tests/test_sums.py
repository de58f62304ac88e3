"""SUMS: linear terms, numbers that are found, REFUTE and LOOK; compared with planted numbers and a plain looker."""

import inspect
import itertools
import random
import unittest
from fractions import Fraction

from allsorts import sums
from allsorts.clauses import clause_of, turned_right
from allsorts.errors import BadText, BadValue
from allsorts.sayings import text_of
from allsorts.sums import linear, look_sums, number_values, refute_sums
from allsorts.ties import is_lot
from tests.plain import chance_term, number_of, unknowns_of
from tests.samples import TERMS, P, X, Y, Rude, chain_of, num_of, wrong_things

Z = ("name", "z", "num")
S = ("name", "s", "set")
F_OF_X = ("call", "f", (X,), "num")
ONE = (1, 1)
NONE = (0, 1)


def n(number):
    return ("number", number)


def same(one, other, truth=True):
    return (turned_right(("same", one, other)), truth)


def most(one, other, truth=True):
    return (("most", one, other), truth)


def is_of_sums(atom):
    return atom[0] == "most" or atom[0] == "same" and text_sort(atom[1]) == "num"


def text_sort(term):
    return term[-1] if term[0] in ("name", "call") else "num" if term[0] in ("number", "plus", "times") else ""


def plain_sum(literal, sign):
    """A - B of a literal so many times, as a dict; None is its number alone."""
    table = {}
    for term, side in ((literal[0][1], sign), (literal[0][2], -sign)):
        numbers = {one: 0 for one in unknowns_of(term)}
        table[None] = table.get(None, 0) + side * number_of(term, numbers)
        for one in numbers:
            many = number_of(term, {**numbers, one: 1}) - number_of(term, numbers)
            table[one] = table.get(one, 0) + side * many
    return table


def is_fraction(thing):
    if type(thing) is not tuple or [type(part) for part in thing] != [int, int] or thing[1] < 1:
        return False
    return (Fraction(*thing).numerator, Fraction(*thing).denominator) == thing


def plain_weights(lot, weights, taken=None, sign=1):
    """Whether anything is WEIGHTS that clash, by the words of the document."""
    if type(weights) is not tuple or len(weights) != len(lot) or not all(map(is_fraction, weights)):
        return False
    total, strict = {None: Fraction(0)}, False
    for at, (literal, pair) in enumerate(zip(lot, weights)):
        weight = Fraction(*pair)
        word, truth = literal[0][0], literal[1]
        if weight < 0 and not (word == "same" and truth):
            return False
        if word == "same" and not truth and at != taken and weight != 0:
            return False
        strict = strict or weight > 0 and not truth
        side = sign if at == taken else -1 if not truth else 1
        for one, many in plain_sum(literal, side).items():
            total[one] = total.get(one, 0) + weight * many
    number = total.pop(None)
    return not any(total.values()) and (number >= 0 if strict else number > 0)


def plain_look(lot, cert):
    if not all(is_of_sums(atom) for atom, _ in lot) or type(cert) is not tuple:
        return False
    if not cert or type(cert[0]) is not str:
        return plain_weights(lot, cert)
    if len(cert) != 4 or cert[0] != "two" or type(cert[1]) is not int or not 0 <= cert[1] < len(lot):
        return False
    if lot[cert[1]][0][0] != "same" or lot[cert[1]][1]:
        return False
    return plain_weights(lot, cert[2], cert[1], 1) and plain_weights(lot, cert[3], cert[1], -1)


def chance_sum(chance, names):
    """An atom that tells of a sum of some of these."""
    one, other = (("plus", ("times", chance.randint(-2, 2), chance.choice(names)),
                   chance.choice(names)) for _ in range(2))
    return turned_right((chance.choice(["most", "most", "same"]), one, other))


class InterfaceTest(unittest.TestCase):
    def test_arguments_and_files(self):
        for name, arguments in (("linear", ["term"]), ("number_values", ["literals"]), ("refute_sums", ["literals"]),
                                ("look_sums", ["lot", "cert"])):
            function = getattr(sums, name)
            self.assertEqual(function.__module__, "allsorts.sums")
            self.assertEqual(list(inspect.signature(function).parameters), arguments)

    def test_arguments_by_name(self):
        self.assertEqual(linear(term=X), ([(X, ONE)], NONE))
        self.assertEqual(number_values(literals=[]), [])
        self.assertIsNone(refute_sums(literals=[]))
        self.assertIs(look_sums(lot=(), cert=()), False)

    def refused(self, what, function, *arguments):
        with self.assertRaises(BadValue) as caught:
            function(*arguments)
        self.assertEqual(caught.exception.what, what)
        self.assertNotIsInstance(caught.exception, BadText)

    def test_refused(self):
        others = [row[0] for row in TERMS if row[1] != "num"]
        for thing in wrong_things() + others + [P, chain_of(7), num_of(41), list(X), ("most", X, Y)]:
            self.refused("term", linear, thing)
        for function in (number_values, refute_sums):
            for thing in wrong_things():
                if not (type(thing) in (list, tuple) and len(thing) == 0):
                    self.refused("literals", function, thing)
                self.refused("literals", function, [thing])
                self.refused("literals", function, (most(X, Y), thing))
            for thing in ([(("part", 0), True)], [(("same", Y, X), True)], [(P, 1)], [[P, True]], (P, True), [P]):
                self.refused("literals", function, thing)
        self.refused("literals", refute_sums, [most(X, Y), (P, True), most(X, Y, False)])
        self.refused("literals", refute_sums, [(P, True), (P, False)])
        for thing in [thing for thing in wrong_things() if not is_lot(thing)] + [[], [most(X, Y)], (P, True), Rude()]:
            self.refused("lot", look_sums, thing, ())


class LinearTest(unittest.TestCase):
    def test_ordinary_ones(self):
        for term, told in ((n(5), ([], (5, 1))), (n(0), ([], NONE)), (X, ([(X, ONE)], NONE)),
                           (F_OF_X, ([(F_OF_X, ONE)], NONE)),
                           (("plus", Y, X), ([(X, ONE), (Y, ONE)], NONE)), (("plus", X, X), ([(X, (2, 1))], NONE)),
                           (("times", -3, ("plus", X, n(2))), ([(X, (-3, 1))], (-6, 1))),
                           (("times", 0, X), ([], NONE)), (("plus", X, ("times", -1, X)), ([], NONE)),
                           (("plus", F_OF_X, ("times", 2, X)), ([(F_OF_X, ONE), (X, (2, 1))], NONE)),
                           (("times", 10 ** 6, ("times", 10 ** 6, ("times", -10 ** 6, X))),
                            ([(X, (-10 ** 18, 1))], NONE))):
            self.assertEqual(linear(term), told, term)
            self.assertIs(type(linear(term)), tuple)

    def test_by_chance(self):
        chance = random.Random(17)
        names = {"num": [X, Y, Z, n(1), n(-2)], "tree": [("name", "t", "tree")], "set": [S], "bits": [("bits", 1)],
                 "thing": [("name", "o", "thing")]}
        for _ in range(200):
            term = chance_term(chance, "num", 4, names)
            told, number = linear(term)
            self.assertEqual(told, sorted(told, key=lambda row: text_of(row[0])))
            self.assertNotIn(NONE, [many for _, many in told])
            numbers = {one: Fraction(chance.randint(-9, 9), chance.randint(1, 5)) for one in unknowns_of(term)}
            total = Fraction(*number) + sum(Fraction(*many) * numbers[one] for one, many in told)
            self.assertEqual(total, number_of(term, numbers))

    def test_what_is_told_is_the_askers_own(self):
        told, _ = linear(("plus", X, Y))
        told.clear()
        self.assertEqual(linear(("plus", X, Y)), ([(X, ONE), (Y, ONE)], NONE))


class SumsTest(unittest.TestCase):
    def looked(self, literals):
        """What number_values tells, looked at, as what refute_sums tells."""
        told = number_values(literals)
        self.assertEqual(number_values(tuple(literals)), told)
        against = refute_sums(literals)
        self.assertEqual(refute_sums(tuple(literals)), against)
        self.assertIs(told is None, against is not None)
        if told is None:
            lot, cert = against
            self.assertIs(is_lot(lot), True)
            self.assertTrue(set(lot) <= set(literals))
            self.assertIs(look_sums(lot, cert), True)
            self.assertTrue(plain_look(lot, cert))
        else:
            self.hold(literals, told)
        return told

    def hold(self, literals, told):
        self.assertIs(type(told), list)
        numbers = {one: Fraction(*number) for one, number in told}
        self.assertTrue(all(is_fraction(number) for _, number in told))
        mine = [literal for literal in literals if is_of_sums(literal[0])]
        wanted = {one for atom, _ in mine for term in atom[1:] for one in unknowns_of(term)}
        self.assertEqual([one for one, _ in told], sorted(wanted, key=text_of))
        for (word, one, other), truth in mine:
            first, last = number_of(one, numbers), number_of(other, numbers)
            self.assertIs(first == last if word == "same" else first <= last, truth)

    def test_ordinary_ones(self):
        self.assertEqual(self.looked([]), [])
        self.assertEqual(self.looked([same(X, n(3))]), [(X, (3, 1))])
        self.assertEqual(self.looked([same(("times", 2, X), n(3))]), [(X, (3, 2))])
        self.assertIsNone(self.looked([most(X, Y), most(Y, X), same(X, Y, False)]))
        self.assertIsNone(self.looked([most(X, Y, False), most(Y, X, False)]))
        self.assertIsNone(self.looked([most(X, Y), most(Y, Z), most(X, Z, False)]))
        self.assertIsNone(self.looked([same(X, Y), same(Y, Z), same(X, Z, False)]))
        self.assertIsNone(self.looked([same(X, ("plus", X, n(1)))]))
        self.assertIsNotNone(self.looked([most(X, Y), same(X, Y, False), most(Y, ("plus", X, n(1)))]))
        self.assertIsNotNone(self.looked([most(X, n(0), False), most(("times", 10 ** 6, X), n(1))]))

    def test_numbers_alone(self):
        for one, other in itertools.product((-1, 0, 1), (-1, 0, 1)):
            for truth in (True, False):
                self.assertIs(self.looked([most(n(one), n(other), truth)]) is not None, (one <= other) == truth)
                self.assertIs(self.looked([same(n(one), n(other), truth)]) is not None, (one == other) == truth)
        self.assertEqual(refute_sums([same(n(1), n(1), False)])[1], ("two", 0, (ONE,), (ONE,)))

    def test_strict_and_not_strict(self):
        for low, high, wanted in ((True, True, True), (True, False, False), (False, True, False),
                                  (False, False, False)):
            six = ("times", 2, X)
            literals = [most(n(3), X) if low else most(X, n(3), False),
                        most(six, n(6)) if high else most(n(6), six, False)]
            self.assertIs(self.looked(literals) is not None, wanted)
        self.assertIsNone(self.looked([most(n(3), X), most(X, n(3)), same(X, n(3), False)]))
        self.assertEqual(self.looked([most(n(3), X), most(X, n(3))]), [(X, (3, 1))])

    def test_all_unknowns(self):
        told = self.looked([same(("times", 0, X), n(0)), most(("plus", Y, ("times", -1, Y)), F_OF_X)])
        self.assertEqual([one for one, _ in told], [F_OF_X, X, Y])
        self.assertIsNone(self.looked([most(("times", 0, X), n(-1))]))
        call = ("call", "g", (Z, ("plus", X, Y)), "num")
        self.assertEqual([one for one, _ in self.looked([most(call, n(0))])], [call])
        self.assertEqual(self.looked([same(("times", 0, X), n(0)), same(("times", 0, Y), n(1), False)])[0][0], X)

    def test_literals_of_other_sorts_are_passed_over(self):
        others = [(P, True), same(S, S, False), (("in", X, S), True), (("bit", 0, ("bits", 1)), False),
                  same(("tip", X), ("tip", Y))]
        self.assertEqual(self.looked(others), [])
        self.assertEqual([one for one, _ in self.looked(others + [most(Z, n(0))])], [Z])
        lot, _ = refute_sums(others + [most(n(1), n(0))])
        self.assertEqual(lot, (most(n(1), n(0)),))

    def test_opposed_ones_are_refused(self):
        for atom in (most(X, Y)[0], same(X, Y)[0], P, ("in", X, S)):
            for more in ([], [same(X, Z)], [same(X, Z), same(X, Z)]):
                for literals in ([(atom, True)] + more + [(atom, False)], ((atom, False), *more, (atom, True))):
                    for function in (number_values, refute_sums):
                        with self.assertRaises(BadValue) as caught:
                            function(literals)
                        self.assertEqual(caught.exception.what, "literals")
                        with self.assertRaises(BadValue) as caught:
                            function(literals=literals)
                        self.assertEqual(caught.exception.what, "literals")

    def test_some_twice_and_in_any_order(self):
        literals = [same(X, Y, False), most(X, Y), most(Y, Z, False), same(Z, n(2)), (P, True)]
        told = self.looked(literals)
        for other in itertools.permutations(literals):
            self.assertEqual(number_values(list(other) + literals), told)
        literals = [most(X, Y), most(Y, Z), most(Z, ("plus", X, n(-1)))]
        against = refute_sums(literals)
        self.assertEqual(refute_sums(literals[::-1] + literals), against)

    def test_all_unlike(self):
        names = [("name", chr(97 + at), "num") for at in range(8)]
        pairs = [same(one, other, False) for one, other in itertools.combinations(names, 2)]
        self.looked(pairs)
        told = self.looked(pairs + [most(n(0), one) for one in names] + [most(one, n(1)) for one in names])
        self.assertEqual(len({number for _, number in told}), 8)
        total = names[0]
        for name in names[1:]:
            total = ("plus", total, name) if len(text_of(total)) < 60 else total
        self.looked(pairs + [same(total, n(0)), most(names[0], n(0)), same(names[1], ("times", 2, names[2]))])

    def test_planted_numbers(self):
        chance = random.Random(18)
        for _ in range(150):
            names = {"num": [("name", chr(97 + at), "num") for at in range(chance.randint(1, 6))] + [n(2), F_OF_X],
                     "tree": [("name", "t", "tree")], "set": [S], "bits": [("bits", 1)],
                     "thing": [("name", "o", "thing")]}
            numbers = {}
            told = {}
            for _ in range(chance.randint(1, 14)):
                one, other = (chance_term(chance, "num", 3, names) for _ in range(2))
                for unknown in unknowns_of(one) + unknowns_of(other):
                    numbers.setdefault(unknown, Fraction(chance.randint(-4, 4), chance.randint(1, 3)))
                atom = turned_right((chance.choice(["most", "same"]), one, other))
                first, last = number_of(atom[1], numbers), number_of(atom[2], numbers)
                told[atom] = first <= last if atom[0] == "most" else first == last
            self.assertIsNotNone(self.looked(list(told.items())))

    def test_by_chance(self):
        chance = random.Random(19)
        found = []
        for _ in range(400):
            names = [("name", chr(97 + at), "num") for at in range(chance.randint(1, 4))] + [n(1), n(-2)]
            told = {}
            for _ in range(chance.randint(1, 7)):
                told.setdefault(chance_sum(chance, names), chance.random() < 0.6)
            found.append(self.looked(list(told.items())) is not None)
        self.assertGreater(min(found.count(True), found.count(False)), 80)

    def test_many_sums(self):
        names = [("name", "n" + chr(97 + at), "num") for at in range(24)]
        ring = [most(one, other) for one, other in zip(names, names[1:])]
        self.assertIsNotNone(self.looked(ring))
        self.assertIsNone(self.looked(ring + [most(names[0], names[-1], False)]))
        self.assertIsNone(self.looked(ring + [most(names[-1], names[0]), same(names[3], names[17], False)]))
        self.assertIsNotNone(self.looked(ring + [same(names[3], names[17], False)]))


class LookTest(unittest.TestCase):
    def test_weights(self):
        lot = clause_of([most(X, Y), most(Y, n(1)), most(n(2), X)])
        self.assertIs(look_sums(lot, (ONE, ONE, ONE)), True)
        self.assertIs(look_sums(lot, ((1, 2), (1, 2), (1, 2))), True)
        for cert in ((ONE, ONE), (ONE,) * 4, (ONE, ONE, (2, 1)), (ONE, ONE, NONE), (NONE,) * 3, ((-1, 1),) * 3,
                     [ONE, ONE, ONE],
                     (1, 1, 1), ((2, 2), ONE, ONE), ((True, 1), ONE, ONE), ([1, 1], ONE, ONE), (ONE, ONE, None), ()):
            self.assertIs(look_sums(lot, cert), False, cert)
        self.assertIs(look_sums((), ()), False)

    def test_weights_below_none(self):
        lot = clause_of([same(X, n(1)), most(X, n(0))])
        weights = {lot.index(same(X, n(1))): (1, 1), lot.index(most(X, n(0))): ONE}
        # The sum of 1 and x is 1 - x, as "1" comes ahead of "x:num": so they add up to 1 above 0.
        self.assertIs(look_sums(lot, (weights[0], weights[1])), True)
        lot = clause_of([same(X, n(1)), most(n(2), X)])
        self.assertIs(look_sums(lot, tuple((-1, 1) if atom[0] == "same" else ONE for atom, _ in lot)), True)
        self.assertIs(look_sums(lot, (ONE, ONE)), False)
        self.assertIs(look_sums((most(X, n(0)),), ((-1, 1),)), False)
        self.assertIs(look_sums((most(n(1), n(0), False),), ((-1, 1),)), False)

    def test_strict(self):
        lot = clause_of([most(X, Y), most(Z, Y, False), most(Z, X)])
        self.assertIs(look_sums(lot, (ONE, ONE, ONE)), True)
        self.assertIs(look_sums(lot, tuple(ONE if truth else NONE for _, truth in lot)), False)
        lot = clause_of([most(X, Y), most(Y, X)])
        self.assertIs(look_sums(lot, (ONE, ONE)), False)
        self.assertIs(look_sums((most(n(0), n(0), False),), (ONE,)), True)
        self.assertIs(look_sums((most(n(0), n(0), False),), (NONE,)), False)
        self.assertIs(look_sums((most(n(0), n(1), False),), (ONE,)), True)
        self.assertIs(look_sums((most(n(1), n(0), False),), (ONE,)), False)
        self.assertIs(look_sums((most(n(1), n(0)),), (ONE,)), True)
        self.assertIs(look_sums((most(n(0), n(0)),), (ONE,)), False)

    def test_two(self):
        lot = clause_of([most(X, Y), most(Y, X), same(X, Y, False)])
        at = lot.index(same(X, Y, False))
        less = tuple(NONE if row == most(X, Y) else ONE for row in lot)
        more = tuple(NONE if row == most(Y, X) else ONE for row in lot)
        self.assertIs(look_sums(lot, ("two", at, less, more)), True)
        for cert in (("two", at, more, less), ("two", at, less, less), ("two", at, more, more), ("two", at, less),
                     ("two", at, less, more, more), ("two", at - 1, less, more), ("two", at + 1, less, more),
                     ("two", float(at), less, more), ("two", at, list(less), more), ("Two", at, less, more),
                     ["two", at, less, more],
                     ("two", True, less, more), ("two", at, None, more), less, more, (ONE, ONE, ONE)):
            self.assertIs(look_sums(lot, cert), False, cert)
        # Its own WEIGHT may be 0, where the others clash by themselves; those of others that aren't the same must be.
        lot = clause_of([most(n(1), n(0)), same(X, Y, False), same(X, Z, False)])
        self.assertIs(look_sums(lot, ("two", 1, (ONE, NONE, NONE), (ONE, NONE, NONE))), True)
        self.assertIs(look_sums(lot, ("two", 2, (ONE, NONE, NONE), (ONE, NONE, NONE))), True)
        self.assertIs(look_sums(lot, ("two", 1, (ONE, NONE, ONE), (ONE, NONE, NONE))), False)
        self.assertIs(look_sums(lot, ("two", 0, (ONE, NONE, NONE), (ONE, NONE, NONE))), False)
        self.assertIs(look_sums(lot, (ONE, NONE, NONE)), True)
        self.assertIs(look_sums(lot, (ONE, ONE, NONE)), False)

    def test_other_atoms_make_it_false(self):
        self.assertIs(look_sums((most(n(1), n(0)),), (ONE,)), True)
        for other in ((P, True), same(S, S), (("in", X, S), True), (("bit", 0, ("bits", 1)), False),
                      same(("tip", X), ("tip", X))):
            lot = clause_of([most(n(1), n(0)), other])
            self.assertIs(look_sums(lot, tuple(ONE if row[0][0] == "most" else NONE for row in lot)), False)

    def test_false_of_anything(self):
        lot = clause_of([most(n(1), n(0)), same(X, X, False)])
        at = lot.index(same(X, X, False))
        for thing in wrong_things():
            for cert in (thing, (thing, thing), (ONE, thing), (thing, NONE), (thing, at, (ONE, NONE), (ONE, NONE)),
                         ("two", at, thing, (ONE, NONE)), ("two", at, (ONE, NONE), thing), (thing, NONE, NONE),
                         ("two", at, (ONE, thing), (ONE, NONE))):
                self.assertIs(look_sums(lot, cert), False)
            wanted = type(thing) is int and thing == at
            self.assertIs(look_sums(lot, ("two", thing, (ONE, NONE), (ONE, NONE))), wanted)

    def test_spoilt_in_one_place(self):
        chance = random.Random(20)
        seen = {"two": 0, "one": 0}
        while min(seen.values()) < 6:
            names = [X, Y, Z, n(1)]
            told = {}
            for _ in range(chance.randint(2, 6)):
                told.setdefault(chance_sum(chance, names), chance.random() < 0.6)
            against = refute_sums(list(told.items()))
            word = None if against is None else "two" if against[1][0] == "two" else "one"
            if against is not None and seen[word] < 6:
                seen[word] += 1
                for cert in self.spoilt(against[1]):
                    self.assertIs(look_sums(against[0], cert), plain_look(against[0], cert), cert)

    def spoilt(self, cert):
        """Things that are unlike it in one place."""
        if type(cert) is tuple:
            yield list(cert)
            for at in range(len(cert)):
                yield cert[:at] + cert[at + 1:]
                yield cert[:at] + (cert[at],) + cert[at:]
                yield cert[:at] + cert[at:][::-1]
                for other in self.spoilt(cert[at]):
                    yield cert[:at] + (other,) + cert[at + 1:]
        elif type(cert) is int:
            yield from (cert + 1, cert - 1, -cert, 2 * cert, bool(cert), float(cert), str(cert), None)
        else:
            yield from ("one", None, "")


if __name__ == "__main__":
    unittest.main()
