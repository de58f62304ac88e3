"""BITS: what the bits of terms are, LEMMAS by which it follows, and LOOK compared with going through all values."""

import inspect
import itertools
import random
import unittest

from allsorts import bits
from allsorts.bits import lemmas_of_bits, look_bits, word_of
from allsorts.choosing import at_once
from allsorts.clauses import clause_of, is_clause, opposed, turned_right
from allsorts.errors import BadText, BadValue
from allsorts.sayings import terms_of
from allsorts.terms import inner_of, sort_of
from allsorts.ties import is_lot
from allsorts.values import Model
from tests.plain import chance_term, parts_of
from tests.samples import P, X, Y, wrong_things, wrong_values

A = ("name", "a", "bits")
B = ("name", "b", "bits")
CALL = ("call", "f", (X,), "bits")
SAME = ("same",)
NAMES = {"bits": [A, B, CALL, ("bits", 0), ("bits", 5), ("bits", 15)], "num": [X, ("number", 1)],
         "thing": [("name", "o", "thing")], "tree": [("name", "t", "tree")], "set": [("none",)]}


def n(number):
    return ("bits", number)


def bit(number, term, truth=True):
    return (("bit", number, term), truth)


def same(one, other, truth=True):
    return (turned_right(("same", one, other)), truth)


def worth(term, values):
    """What a term of bits comes to, by values of names and calls."""
    if term in values:
        return values[term]
    inner = [worth(one, values) for one in inner_of(term)]
    if term[0] == "bits":
        return term[1]
    return {"band": lambda: inner[0] & inner[1], "bor": lambda: inner[0] | inner[1],
            "badd": lambda: (inner[0] + inner[1]) % 16, "bnot": lambda: 15 - inner[0]}[term[0]]()


def plain_look(lot, cert):
    """Whether a LOT is let by with a CERT, by the words of the document."""
    atoms = [atom for atom, _ in lot]
    if cert == SAME:
        sames = [row for row in lot if row[0][0] == "same" and sort_of(row[0][1]) == "bits"]
        if len(sames) != 1 or sames[0][1]:
            return False
        terms, made = list(dict.fromkeys(sames[0][0][1:])), None
        if any(atom[0] != "bit" and atom != sames[0][0] for atom in atoms):
            return False
    else:
        if sort_of(cert) != "bits" or cert[0] in ("name", "call"):
            return False
        terms, made = list(dict.fromkeys(inner_of(cert))), cert
        if any(atom[0] != "bit" for atom in atoms):
            return False
    if any(atom[2] not in terms + [made] for atom in atoms if atom[0] == "bit"):
        return False
    for values in itertools.product(range(16), repeat=len(terms)):
        table = dict(zip(terms, values))
        if made is not None:
            table[made] = worth(made, table)
        held = [table[atom[2]] >> atom[1] & 1 if atom[0] == "bit" else table[atom[1]] == table[atom[2]]
                for atom in atoms]
        if all(bool(is_so) == truth for is_so, (_, truth) in zip(held, lot)):
            return False
    return True


class WordTest(unittest.TestCase):
    def test_all_values(self):
        for value in range(16):
            word = word_of(value)
            self.assertIs(type(word), tuple)
            self.assertEqual(word, tuple(bool(value & mask) for mask in (1, 2, 4, 8)))
            for truth in word:
                self.assertIs(type(truth), bool)
        self.assertEqual(word_of(value=8), (False, False, False, True))

    def test_refused(self):
        for thing in wrong_values() + wrong_things() + [16, -1, True, False, (5, 1)]:
            if type(thing) is int and 0 <= thing <= 15:
                continue
            with self.assertRaises(BadValue) as caught:
                word_of(thing)
            self.assertEqual(caught.exception.what, "value")
            self.assertNotIsInstance(caught.exception, BadText)


class LemmasTest(unittest.TestCase):
    looked_at = {}

    def told(self, atoms):
        """What is told, looked at once."""
        key = tuple(atoms)
        if key not in self.looked_at:
            self.looked_at[key] = self.told_first(atoms)
        return self.looked_at[key]

    def told_first(self, atoms):
        lemmas = lemmas_of_bits(atoms)
        self.assertIs(type(lemmas), list)
        self.assertEqual(lemmas_of_bits(tuple(atoms)), lemmas)
        self.assertEqual(len({clause for clause, _ in lemmas}), len(lemmas))
        parts = {part for atom in atoms for part in parts_of(atom)}
        for clause, cert in lemmas:
            self.assertIs(is_clause(clause), True)
            lot = clause_of([opposed(literal) for literal in clause])
            self.assertIs(is_lot(lot), True)
            self.assertIs(look_bits(lot, cert), True)
            for atom, _ in clause:
                self.assertTrue(set(terms_of(atom)) <= parts)
        return lemmas

    def test_arguments_and_files(self):
        for name, wanted in (("lemmas_of_bits", ["atoms"]), ("look_bits", ["lot", "cert"]), ("word_of", ["value"])):
            function = getattr(bits, name)
            self.assertEqual(function.__module__, "allsorts.bits")
            self.assertEqual(list(inspect.signature(function).parameters), wanted)
        self.assertEqual(lemmas_of_bits(atoms=[]), [])
        self.assertIs(look_bits(lot=(), cert=SAME), False)

    def test_of_no_bits_none(self):
        for atoms in ([], [P], [("most", X, Y)], [("in", X, ("one", Y))], [("bit", 1, A)], [("bit", 0, CALL)]):
            self.assertEqual(self.told(atoms), [])

    def follows(self, atoms, values):
        """All bits of all terms follow at once from those of names and calls, and so do the same of alike ones."""
        clauses = [clause for clause, _ in self.told(atoms)]
        parts = [part for part in dict.fromkeys(part for atom in atoms for part in parts_of(atom))
                 if sort_of(part) == "bits"]
        given = [bit(at, part, bool(values[part] >> at & 1)) for part in parts if part in values for at in range(4)]
        told = at_once(clauses, given)
        for part in parts:
            for at in range(4):
                self.assertIn(bit(at, part, bool(worth(part, values) >> at & 1)), told)
        for atom in atoms:
            if atom[0] == "same" and worth(atom[1], values) == worth(atom[2], values):
                self.assertIn(same(atom[1], atom[2]), told)
        for literal in told:
            if literal[0][0] == "same":
                self.assertIs(worth(literal[0][1], values) == worth(literal[0][2], values), literal[1])

    def test_each_word_by_all_values(self):
        for word in ("band", "bor", "badd"):
            for one, other in itertools.product(range(16), repeat=2):
                self.follows([("bit", 3, (word, A, B))], {A: one, B: other})
                if other in (0, 6, 15):
                    self.follows([("same", (word, A, n(other)), B)], {A: one, B: other})
        for word, value in itertools.product(("band", "bor", "badd"), range(16)):
            self.follows([("same", (word, A, A), A)], {A: value})
            self.follows([("same", ("bnot", (word, CALL, CALL)), n(value))], {CALL: value})

    def test_numbers_have_their_bits(self):
        for value in range(16):
            clauses = [clause for clause, _ in self.told([("bit", 0, n(value))])]
            told = at_once(clauses)
            self.assertEqual(told, clause_of([bit(at, n(value), word_of(value)[at]) for at in range(4)]))

    def test_same_in_either_order_of_one_and_of_two_numbers(self):
        for one, other in ((A, B), (B, A)):
            for value in range(16):
                self.follows([("same", one, other)], {A: value, B: value})
        clauses = [clause for clause, _ in self.told([("same", A, A)])]
        self.assertIn(same(A, A), at_once(clauses, [bit(at, A) for at in range(4)]))
        self.follows([("same", n(7), n(7)), ("same", n(7), n(8))], {})
        self.follows([("same", ("bnot", n(7)), n(8))], {})
        self.assertEqual(lemmas_of_bits([("same", A, B), ("same", B, A)]), lemmas_of_bits([("same", B, A)]))

    def test_only_where_there_is_such_a_same(self):
        for clause, cert in self.told([("bit", 0, ("band", A, B)), ("same", X, Y)]):
            self.assertEqual(cert, ("band", A, B))
            self.assertFalse([atom for atom, _ in clause if atom[0] == "same"])

    def test_terms_within_calls_of_other_sorts(self):
        inner = ("badd", A, n(3))
        for outer in (("call", "g", (inner,), "num"), ("call", "g", (X, ("call", "h", (inner,), "set")), "num")):
            self.follows([("most", outer, Y)], {A: 14})
        self.follows([("in", ("call", "g", (inner,), "num"), ("none",))], {A: 7})

    def test_by_chance(self):
        chance = random.Random(31)
        for _ in range(120):
            terms = [chance_term(chance, "bits", 3, NAMES) for _ in range(chance.randint(1, 3))]
            atoms = [("bit", 2, terms[0]), ("same", terms[0], terms[-1])][:chance.randint(1, 2)]
            calls = {part for atom in atoms for part in parts_of(atom)
                     if part[0] in ("name", "call") and sort_of(part) == "bits"}
            self.follows(atoms, {part: chance.randint(0, 15) for part in sorted(calls, key=repr)})

    def test_refused(self):
        for thing in wrong_things() + [("not", P), ("and", ()), A, (P, True), ("part", 0), list(P)]:
            if not (type(thing) in (list, tuple) and len(thing) == 0):
                self.refused("atoms", lemmas_of_bits, thing)
            self.refused("atoms", lemmas_of_bits, [thing])
            self.refused("atoms", lemmas_of_bits, (P, thing))
        for thing in [thing for thing in wrong_things() if not is_lot(thing)] + [[], [bit(0, A)], bit(0, A)]:
            self.refused("lot", look_bits, thing, SAME)

    def refused(self, what, function, *arguments):
        with self.assertRaises(BadValue) as caught:
            function(*arguments)
        self.assertEqual(caught.exception.what, what)
        self.assertNotIsInstance(caught.exception, BadText)

    def test_what_is_told_is_the_askers_own(self):
        atoms = [("same", ("badd", A, B), n(3))]
        told = lemmas_of_bits(atoms)
        wanted = list(told)
        told.clear()
        self.assertEqual(lemmas_of_bits(atoms), wanted)
        self.assertEqual(atoms, [("same", ("badd", A, B), n(3))])


class LookTest(unittest.TestCase):
    def compared(self, lot, cert):
        is_so = look_bits(lot, cert)
        self.assertIs(is_so, plain_look(lot, cert), (lot, cert))
        return is_so

    def test_same(self):
        alike = [bit(at, term, at != 2) for at in range(4) for term in (A, B)]
        self.assertIs(look_bits(clause_of(alike + [same(A, B, False)]), SAME), True)
        self.assertIs(look_bits(clause_of(alike + [same(A, B)]), SAME), False)
        for left in range(8):
            self.assertIs(look_bits(clause_of(alike[:left] + alike[left + 1:] + [same(A, B, False)]), SAME), False)
            other = alike[:left] + [opposed(alike[left])] + alike[left + 1:]
            self.assertIs(look_bits(clause_of(other + [same(A, B, False)]), SAME), False)
        self.assertIs(look_bits((same(A, A, False),), SAME), True)
        self.assertIs(look_bits(clause_of([same(A, A, False), bit(0, A)]), SAME), True)
        for other in ((P, True), bit(0, CALL), same(A, CALL, False), same(A, A, False), same(X, Y), bit(0, n(3))):
            self.assertIs(look_bits(clause_of(alike + [same(A, B, False), other]), SAME), False)
        self.assertIs(look_bits((same(X, X, False),), SAME), False)
        # Numbers have whatever values there, too.
        self.assertIs(look_bits((same(n(3), n(3), False),), SAME), True)
        self.assertIs(look_bits(clause_of([same(A, n(3), False)] + [bit(at, A, at < 2) for at in range(4)]), SAME),
                      False)

    def test_numbers(self):
        for value, at, truth in itertools.product(range(16), range(4), (True, False)):
            self.assertIs(look_bits((bit(at, n(value), truth),), n(value)), truth != word_of(value)[at])
        self.assertIs(look_bits((bit(0, n(2)),), n(3)), False)
        self.assertIs(look_bits((), n(3)), False)

    def test_all_truths_of_few_bits(self):
        chance = random.Random(32)
        held = []
        for word, (one, other) in itertools.product(("band", "bor", "badd"), ((A, B), (B, A), (A, A), (n(3), A),
                                                                              (("bnot", A), A))):
            made = (word, one, other)
            atoms = list(dict.fromkeys(("bit", at, term) for term in (made, one, other) for at in range(4)))
            for _ in range(60):
                some = chance.sample(atoms, chance.randint(1, len(atoms)))
                values = {atom: chance.random() < 0.5 for atom in some}
                if chance.random() < 0.6:
                    # Nearly right ones.
                    table = {one: chance.randint(0, 15), other: chance.randint(0, 15)}
                    table[made] = worth(made, table)
                    values = {atom: bool(table[atom[2]] >> atom[1] & 1) for atom in some}
                    flip = chance.choice(some)
                    values[flip] = not values[flip]
                held.append(self.compared(clause_of(list(values.items())), made))
        self.assertGreater(min(held.count(True), held.count(False)), 100)
        for one in (A, n(4), CALL):
            for truths in itertools.product((True, False, None), repeat=4):
                lot = [row for row in zip([("bit", at, term) for at in (0, 3) for term in (one, ("bnot", one))],
                                          truths)]
                self.compared(clause_of([row for row in lot if row[1] is not None]), ("bnot", one))

    def test_no_other_atoms(self):
        made = ("band", A, B)
        lot = [bit(0, made), bit(0, A, False)]
        self.assertIs(look_bits(clause_of(lot), made), True)
        for other in ((P, True), bit(0, CALL), same(A, B), same(made, A, False), (("in", X, ("none",)), False),
                      bit(0, ("band", B, A))):
            self.assertIs(look_bits(clause_of(lot + [other]), made), False)
        for other in (bit(1, A), bit(0, B), bit(3, made)):
            self.assertIs(look_bits(clause_of(lot + [other]), made), True)

    def test_other_certs(self):
        made = ("band", A, B)
        lot = clause_of([bit(0, made), bit(0, A, False)])
        for cert in (("band", B, A), ("bor", A, B), A, CALL, X, P, [*made], (made,), None, SAME, ["same"], "same",
                     ("same", made), ("same", A, B), ("band", A), n(0)):
            self.assertIs(look_bits(lot, cert), False)
        for cert in wrong_things():
            self.assertIs(look_bits(lot, cert), False)
            self.assertIs(look_bits((same(A, A, False),), cert), False)

    def test_it_agrees_with_models(self):
        chance = random.Random(33)
        for _ in range(200):
            made = chance_term(chance, "bits", 2, NAMES)
            model = Model([("a", "bits", chance.randint(0, 15)), ("b", "bits", chance.randint(0, 15))])
            atoms = [("bit", chance.randint(0, 3), part) for part in parts_of(made) if sort_of(part) == "bits"]
            lot = clause_of([(atom, model.holds(atom)) for atom in atoms])
            self.assertIs(look_bits(lot, made), False)


if __name__ == "__main__":
    unittest.main()
