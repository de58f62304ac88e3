"""SETS: LEMMAS by which it follows what is in which set, and LOOK compared with going through all truths."""

import inspect
import itertools
import random
import unittest

from allsorts import sets
from allsorts.choosing import at_once
from allsorts.clauses import clause_of, is_clause, opposed, turned_right
from allsorts.errors import BadText, BadValue
from allsorts.sayings import terms_of
from allsorts.sets import lemmas_of_sets, look_sets
from allsorts.terms import sort_of
from allsorts.ties import is_lot
from tests.plain import all_truths, chance_atom, parts_of
from tests.samples import P, X, Y, chain_of, nots, wrong_things

Z = ("name", "z", "num")
S = ("name", "s", "set")
T = ("name", "t", "set")
CALL = ("call", "f", (X,), "set")
NONE = ("none",)
WORDS = ("union", "both", "without")


def one(term):
    return ("one", term)


def within(number, where, truth=True):
    return (("in", number, where), truth)


def same(first, last, truth=True):
    return (turned_right(("same", first, last)), truth)


def besides(number, made):
    """The atoms that may stand beside that of a number in a set told by its word."""
    if made == NONE or made == one(number):
        return []
    if made[0] == "one":
        return [turned_right(("same", number, made[1]))]
    return list(dict.fromkeys([("in", number, made[1]), ("in", number, made[2])]))


def is_in(number, made, truths):
    """Whether a number is in a set told by its word, by the truths of these atoms."""
    if made[0] in ("none", "one"):
        return made[0] == "one" and (made[1] == number or truths[turned_right(("same", number, made[1]))])
    first, last = (truths[("in", number, inner)] for inner in made[1:])
    return {"union": first or last, "both": first and last, "without": first and not last}[made[0]]


def plain_look(lot, cert):
    """Whether a TERM is a CERT, by the words of the document."""
    if sort_of(cert) != "set" or cert[0] in ("name", "call"):
        return False
    numbers = {atom[1] for atom, _ in lot if atom[0] == "in" and atom[2] == cert}
    if len(numbers) != 1:
        return False
    number = numbers.pop()
    atoms = besides(number, cert)
    if not {atom for atom, _ in lot} <= set(atoms + [("in", number, cert)]):
        return False
    for truths in all_truths(atoms):
        truths[("in", number, cert)] = is_in(number, cert, truths)
        if all(truths[atom] == truth for atom, truth in lot):
            return False
    return True


class LemmasTest(unittest.TestCase):
    def told(self, atoms):
        """What is told, looked at."""
        lemmas = lemmas_of_sets(atoms)
        self.assertIs(type(lemmas), list)
        self.assertEqual(lemmas_of_sets(tuple(atoms)), lemmas)
        parts = {part for atom in atoms for part in parts_of(atom)}
        for clause, cert in lemmas:
            self.assertIs(is_clause(clause), True)
            lot = clause_of([opposed(literal) for literal in clause])
            self.assertIs(is_lot(lot), True)
            self.assertIs(look_sets(lot, cert), True)
            self.assertTrue(plain_look(lot, cert))
            for atom, _ in clause:
                self.assertTrue(set(terms_of(atom)) <= parts)
        return lemmas

    def test_arguments_and_files(self):
        for name, arguments in (("lemmas_of_sets", ["atoms"]), ("look_sets", ["lot", "cert"])):
            function = getattr(sets, name)
            self.assertEqual(function.__module__, "allsorts.sets")
            self.assertEqual(list(inspect.signature(function).parameters), arguments)
        self.assertEqual(lemmas_of_sets(atoms=[]), [])
        self.assertIs(look_sets(lot=(), cert=NONE), False)

    def test_of_no_sets_none(self):
        for atoms in ([], [P], [("most", X, Y)], [("same", X, Y), ("same", ("tip", X), ("tip", Y))], [("same", S, T)],
                      [("in", X, S), ("in", Y, CALL)], [("same", S, ("union", S, T))], [("same", NONE, S)]):
            self.assertEqual(self.told(atoms), [])

    def test_of_each_word(self):
        self.assertEqual(self.told([("in", X, NONE)]), [((within(X, NONE, False),), NONE)])
        self.assertEqual(self.told([("same", S, one(X))]), [((within(X, one(X)),), one(X))])
        for word in WORDS:
            made = (word, S, T)
            clauses = [clause for clause, _ in self.told([("in", X, made)])]
            wanted = []
            for truths in all_truths([("in", X, S), ("in", X, T)]):
                is_so = is_in(X, made, truths)
                told = at_once(clauses, [(atom, truth) for atom, truth in truths.items()])
                self.assertIn(within(X, made, is_so), told)
                wanted.append(is_so)
            self.assertIn(True, wanted)

    def test_of_another_number_it_is_told_by_same(self):
        clauses = [clause for clause, _ in self.told([("in", Y, one(X))])]
        for truth in (True, False):
            self.assertIn(within(Y, one(X), truth), at_once(clauses, [same(X, Y, truth)]))
        self.assertIn(within(X, one(X)), at_once(clauses))

    def test_of_twice_the_same_set(self):
        for word in WORDS:
            made = (word, S, S)
            clauses = [clause for clause, _ in self.told([("in", X, made)])]
            self.assertEqual(len(set(clauses)), len(clauses))
            for truth in (True, False):
                is_so = truth and word != "without"
                self.assertIn(within(X, made, is_so), at_once(clauses, [within(X, S, truth)]))

    def test_each_follows_at_once(self):
        chance = random.Random(21)
        names = {"num": [X, Y, ("number", 1)], "set": [S, T, NONE, CALL], "tree": [("name", "t", "tree")],
                 "thing": [("name", "o", "thing")], "bits": [("bits", 1)]}
        greatest = 0
        for _ in range(80):
            atoms = [chance_atom(chance, ["in", "in", "set", "most"], 3, names) for _ in range(chance.randint(1, 3))]
            lemmas = self.told(atoms)
            greatest = max(greatest, len(lemmas))
            parts = list(dict.fromkeys(part for atom in atoms for part in parts_of(atom)))
            numbers = {part[1] for part in parts if part[0] == "one"} | {atom[1] for atom in atoms if atom[0] == "in"}
            given = {}
            for number in numbers:
                for part in parts:
                    if part[0] in ("name", "call") and sort_of(part) == "set":
                        given[("in", number, part)] = chance.random() < 0.5
                    if part[0] == "one" and part[1] != number:
                        given[turned_right(("same", number, part[1]))] = chance.random() < 0.5
            told = at_once([clause for clause, _ in lemmas], list(given.items()))
            for number in numbers:
                for part in parts:
                    if sort_of(part) == "set":
                        self.assertIn(within(number, part, self.worked_out(number, part, given)), told)
        self.assertGreater(greatest, 40)

    def worked_out(self, number, part, given):
        if part[0] in ("name", "call"):
            return given[("in", number, part)]
        if part[0] in WORDS:
            truths = {("in", number, inner): self.worked_out(number, inner, given) for inner in part[1:]}
            return is_in(number, part, truths)
        return is_in(number, part, given)

    def test_in_whatever_order(self):
        atoms = [("in", X, ("union", S, one(Y))), ("in", Z, ("both", T, T)), P]
        told = lemmas_of_sets(atoms)
        self.assertEqual(lemmas_of_sets(atoms[::-1] + atoms), told)
        # Of an atom that isn't TURNED RIGHT as of one that is.
        self.assertEqual(lemmas_of_sets([("same", S, ("union", S, T)), ("in", X, S)]),
                         lemmas_of_sets([("same", ("union", S, T), S), ("in", X, S)]))

    def test_numbers_within_calls(self):
        inner = ("call", "g", (one(X), ("union", S, T)), "num")
        clauses = [clause for clause, _ in self.told([("most", inner, Y)])]
        self.assertIn((within(X, one(X)),), clauses)
        self.assertIn(within(X, ("union", S, T)), at_once(clauses, [within(X, S)]))

    def test_refused(self):
        bad = [("not", P), ("and", ()), X, (P, True), ("part", 0), list(P), ("in", S, X), ("most", chain_of(7), X),
               nots(2, P)]
        for thing in wrong_things() + bad:
            if not (type(thing) in (list, tuple) and len(thing) == 0):
                self.refused("atoms", lemmas_of_sets, thing)
            self.refused("atoms", lemmas_of_sets, [thing])
            self.refused("atoms", lemmas_of_sets, (P, thing))
        self.refused("atoms", lemmas_of_sets, P)
        for thing in [thing for thing in wrong_things() if not is_lot(thing)] + [[], [within(X, S)], within(X, S)]:
            self.refused("lot", look_sets, thing, NONE)

    def refused(self, what, function, *arguments):
        with self.assertRaises(BadValue) as caught:
            function(*arguments)
        self.assertEqual(caught.exception.what, what)
        self.assertNotIsInstance(caught.exception, BadText)

    def test_what_is_told_is_the_askers_own(self):
        atoms = [("in", X, ("union", S, T))]
        told = lemmas_of_sets(atoms)
        wanted = list(told)
        told.clear()
        self.assertEqual(lemmas_of_sets(atoms), wanted)
        self.assertEqual(atoms, [("in", X, ("union", S, T))])


class LookTest(unittest.TestCase):
    def test_none_and_one(self):
        self.assertIs(look_sets((within(X, NONE),), NONE), True)
        self.assertIs(look_sets((within(X, NONE, False),), NONE), False)
        self.assertIs(look_sets((within(X, one(X), False),), one(X)), True)
        self.assertIs(look_sets((within(X, one(X)),), one(X)), False)
        self.assertIs(look_sets(clause_of([within(X, one(X), False), same(X, X)]), one(X)), False)
        for truth, other in itertools.product((True, False), (True, False)):
            lot = clause_of([within(Y, one(X), truth), same(X, Y, other)])
            self.assertIs(look_sets(lot, one(X)), truth != other)
        self.assertIs(look_sets((within(Y, one(X)),), one(X)), False)

    def test_all_truths_of_each_word(self):
        for word, (first, last) in itertools.product(WORDS, ((S, T), (T, S), (S, S), (NONE, S), (one(X), NONE))):
            made = (word, first, last)
            atoms = list(dict.fromkeys([("in", X, made), ("in", X, first), ("in", X, last)]))
            for truths in itertools.product([True, False, None], repeat=len(atoms)):
                lot = clause_of([(atom, truth) for atom, truth in zip(atoms, truths) if truth is not None])
                self.assertIs(look_sets(lot, made), plain_look(lot, made), lot)

    def test_no_other_atoms(self):
        made = ("both", S, T)
        lot = [within(X, made), within(X, S, False)]
        self.assertIs(look_sets(clause_of(lot), made), True)
        for other in (within(Y, S), within(X, NONE), (P, True), same(X, Y), within(Y, made), (("most", X, X), True),
                      within(X, ("both", T, S)), same(S, T)):
            self.assertIs(look_sets(clause_of(lot + [other]), made), False)
        self.assertIs(look_sets(clause_of(lot + [within(X, T)]), made), True)
        self.assertIs(look_sets(clause_of(lot[1:]), made), False)
        self.assertIs(look_sets((), made), False)

    def test_other_certs(self):
        made = ("both", S, T)
        lot = clause_of([within(X, made), within(X, S, False)])
        for cert in (("both", T, S), ("union", S, T), S, T, CALL, NONE, X, P, [*made], (made,), None, ("both", S),
                     ("none", S),
                     ("in", X, made)):
            self.assertIs(look_sets(lot, cert), False)
        for cert in wrong_things():
            self.assertIs(look_sets(lot, cert), False)
            self.assertIs(look_sets((), cert), False)
        for cert in (S, CALL):
            self.assertIs(look_sets(clause_of([within(X, cert)]), cert), False)

    def test_by_chance(self):
        chance = random.Random(22)
        made = [NONE, one(X), one(Y), ("union", S, T), ("both", S, S), ("without", NONE, one(X)),
                ("without", T, one(Y))]
        pool = [("in", number, where) for number in (X, Y) for where in made + [S, T]] + [same(X, Y)[0], P]
        held = []
        for _ in range(1500):
            cert = chance.choice(made)
            number = chance.choice([X, Y])
            atoms = [("in", number, cert)] * (chance.random() < 0.9) + besides(number, cert) + chance.sample(pool, 2)
            some = {atom: chance.random() < 0.5 for atom in atoms[:chance.choice([1, 2, 3, 3, 5])]}
            lot = clause_of(list(some.items()))
            held.append(look_sets(lot, cert))
            self.assertIs(held[-1], plain_look(lot, cert))
        self.assertGreater(min(held.count(True), held.count(False)), 100)


if __name__ == "__main__":
    unittest.main()
