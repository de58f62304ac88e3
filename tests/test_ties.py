"""LOTS, what is TIED by them, whether they are TORN, and PAPERS of that; compared with plain ways."""

import inspect
import random
import re
import unittest

from allsorts import ties
from allsorts.clauses import clause_of, turned_right
from allsorts.errors import BadText, BadValue
from allsorts.reading import read_term
from allsorts.sayings import text_of
from allsorts.ties import are_tied, check_torn, is_lot, tied, torn
from tests.papers import plain_paper_of_ties, spoilt
from tests.plain import PlainTies, chance_lot
from tests.samples import ATOMS, P, Q, X, Y, chain_of, num_of, wrong_things

Z = ("name", "z", "num")
S = ("name", "s", "set")
T = ("name", "t", "set")
B = ("name", "b", "bits")
C = ("name", "c", "bits")
WORDS = ["num", "num", "tree", "same", "same", "most", "in", "bit", "prop"]


def f(*inner, sort="num", name="f"):
    return ("call", name, inner, sort)


def same(one, other, truth=True):
    return (turned_right(("same", one, other)), truth)


class InterfaceTest(unittest.TestCase):
    def test_arguments_and_files(self):
        for name, arguments in (("is_lot", ["thing"]), ("tied", ["lot"]), ("are_tied", ["lot", "one", "other"]),
                                ("torn", ["lot"]), ("check_torn", ["lot", "paper"])):
            function = getattr(ties, name)
            self.assertEqual(function.__module__, "allsorts.ties")
            self.assertEqual(list(inspect.signature(function).parameters), arguments)

    def test_arguments_by_name(self):
        self.assertIs(is_lot(thing=()), True)
        self.assertEqual(tied(lot=()), [])
        self.assertIs(are_tied(lot=(), one=X, other=X), True)
        self.assertIsNone(torn(lot=()))
        self.assertIs(check_torn(lot=(), paper=None), False)


class LotTest(unittest.TestCase):
    def test_lots(self):
        for lot in ((), ((P, True),), ((P, False), (Q, True)),
                    clause_of([same(X, Y), (("most", X, Y), False), (P, True)])):
            self.assertIs(is_lot(lot), True)
        every = [(turned_right(row[0]), True) for row in ATOMS]
        self.assertIs(is_lot(clause_of(every)), True)

    def test_what_is_none(self):
        for thing in ([], [(P, True)], ((P, True), (P, False)), ((P, False), (P, True)), ((P, True), (P, True)),
                      ((Q, True), (P, True)), ((("part", 0), True),), ((("part", 0), True), (P, True)), ((P, 1),),
                      (P, True),
                      ((("same", Y, X), True),), ((P, True), None), None):
            self.assertIs(is_lot(thing), False, thing)
        for thing in wrong_things():
            self.assertIs(is_lot(thing), type(thing) is tuple and len(thing) == 0)
            self.assertIs(is_lot((thing,)), False)

    def test_refused(self):
        for thing in [thing for thing in wrong_things() if not is_lot(thing)] + [[], ((P, False), (P, True))]:
            for function, arguments in ((tied, (thing,)), (are_tied, (thing, 1, 1)), (torn, (thing,)),
                                        (check_torn, (thing, None))):
                self.refused("lot", function, *arguments)
        for thing in wrong_things() + [P, chain_of(7)]:
            self.refused("one", are_tied, (), thing, thing)
            self.refused("one", are_tied, (), thing, X)
            self.refused("other", are_tied, (), X, thing)

    def refused(self, what, function, *arguments):
        with self.assertRaises(BadValue) as caught:
            function(*arguments)
        self.assertEqual(caught.exception.what, what)
        self.assertNotIsInstance(caught.exception, BadText)


class TiedTest(unittest.TestCase):
    def test_told_turned_and_through(self):
        lot = clause_of([same(X, Y), same(Y, Z), same(S, T, False)])
        self.assertEqual(tied(lot), [[S], [T], [X, Y, Z]])
        self.assertEqual(tied(()), [])
        self.assertEqual(tied(((P, True),)), [])
        self.assertEqual(tied((same(X, X),)), [[X]])

    def test_those_told_not_to_be_the_same_are_not_tied(self):
        self.assertEqual(tied((same(X, Y, False),)), [[X], [Y]])
        self.assertEqual(tied(((("most", X, Y), True),)), [[X], [Y]])

    def test_within(self):
        lot = clause_of([same(X, Y), (("most", f(X), f(Y)), True), (("in", X, ("one", f(f(X)))), True),
                         (("in", f(f(Y)), T), True)])
        self.assertEqual(tied(lot), [[f(f(X)), f(f(Y))], [f(X), f(Y)], [("one", f(f(X)))], [T], [X, Y]])
        # And back: what is the same in turn.
        lot = clause_of([same(f(f(f(X))), X), same(f(f(f(f(f(X))))), X)])
        self.assertEqual(len(tied(lot)), 1)

    def test_heads(self):
        one, two = ("number", 1), ("number", 2)
        rows = [same(one, two, False), same(X, Y), same(("times", 2, X), ("times", 3, Y), False),
                same(f(X), f(Y, Y), False), same(f(X, X, X), f(X, Y, X), False), same(f(X, sort="set"), S, False),
                same(f(Y, sort="set", name="g"), f(Y, sort="set"), False), (("bit", 0, ("bnot", B)), True)]
        lot = clause_of(rows)
        self.assertIs(are_tied(lot, one, two), False)
        self.assertIs(are_tied(lot, ("times", 2, X), ("times", 3, Y)), False)
        self.assertIs(are_tied(lot, f(X), f(Y, Y)), False)
        self.assertIs(are_tied(lot, f(X, X, X), f(X, Y, X)), True)
        self.assertIs(are_tied(lot, f(X, sort="set"), f(Y, sort="set")), True)
        self.assertIs(are_tied(lot, f(X, sort="set"), f(Y, sort="set", name="g")), False)
        self.assertIs(are_tied(lot, X, Y), True)

    def test_a_term_that_is_no_part_is_tied_with_itself_alone(self):
        lot = (same(X, Y),)
        for one in (Z, f(X), ("plus", X, Y), S):
            self.assertIs(are_tied(lot, one, one), True)
            for other in (X, Y, f(Y), ("plus", Y, X), T):
                self.assertIs(are_tied(lot, one, other), False)
                self.assertIs(are_tied(lot, other, one), False)

    def test_as_plain_going_round_tells(self):
        chance = random.Random(11)
        for _ in range(300):
            lot = chance_lot(chance, WORDS, 8, 3, 0.7)
            plain = PlainTies(lot)
            told = tied(lot)
            self.assertEqual(sorted(map(text_of, sum(told, []))), sorted(map(text_of, plain.parts)))
            for rows in told:
                self.assertEqual(rows, sorted(rows, key=text_of))
                self.assertEqual(len({plain.root[term] for term in rows}), 1)
            self.assertEqual(len({plain.root[rows[0]] for rows in told}), len(told))
            self.assertEqual(told, sorted(told, key=lambda rows: text_of(rows[0])))
            for _ in range(4 if plain.parts else 0):
                one, other = chance.choice(plain.parts), chance.choice(plain.parts)
                self.assertIs(are_tied(lot, one, other), plain.root[one] == plain.root[other])

    def test_what_is_told_is_the_askers_own(self):
        lot = clause_of([same(X, Y), same(S, T)])
        told = tied(lot)
        told[0].clear()
        told.clear()
        self.assertEqual(tied(lot), [[S, T], [X, Y]])


class TornTest(unittest.TestCase):
    def looked(self, lot):
        """What torn tells, looked at."""
        told = torn(lot)
        if told is not None:
            few, paper = told
            self.assertIs(is_lot(few), True)
            self.assertTrue(set(few) <= set(lot))
            self.assertIs(check_torn(few, paper), True)
            self.assertTrue(plain_paper_of_ties(few, paper))
            for at in range(len(few)):
                self.assertFalse(PlainTies(few[:at] + few[at + 1:]).torn())
                self.assertIsNone(torn(few[:at] + few[at + 1:]))
        return told

    def test_ordinary_ones(self):
        self.assertIsNone(torn(()))
        self.assertIsNone(torn(((P, True),)))
        self.assertIsNone(torn(clause_of([same(X, Y), same(X, Z, False)])))
        lot = clause_of([same(X, Y), same(Y, Z), same(X, Z, False), same(S, T), (P, True)])
        self.assertEqual(self.looked(lot)[0], clause_of([same(X, Y), same(Y, Z), same(X, Z, False)]))
        self.assertEqual(self.looked((same(X, X, False),))[0], (same(X, X, False),))

    def test_two_atoms_of_one_head(self):
        for one, other in ((("most", X, Y), ("most", Y, Y)), (("in", X, S), ("in", Y, S)),
                           (("in", X, ("one", X)), ("in", X, ("one", Y)))):
            for truth in (True, False):
                lot = clause_of([same(X, Y), (one, truth), (other, not truth)])
                few, (_, end) = self.looked(lot)
                self.assertEqual((len(few), end[0]), (3, "apart"))
                self.assertIsNone(torn(clause_of([same(X, Y), (one, truth), (other, truth)])))
        self.assertIsNotNone(self.looked(clause_of([same(B, C), (("bit", 2, B), True), (("bit", 2, C), False)])))
        self.assertIsNone(torn(clause_of([same(B, C), (("bit", 2, B), True), (("bit", 1, C), False)])))
        self.assertIsNone(torn(clause_of([same(X, Y), (("most", X, Z), True), (("most", Z, Y), False)])))
        # Not of same: that it is told of the terms is what counts; nor of props.
        self.assertIsNone(torn(clause_of([(P, True), (Q, False)])))

    def test_as_plain_going_round_tells(self):
        chance = random.Random(12)
        torn_ones = 0
        for _ in range(500):
            lot = chance_lot(chance, WORDS, 12, 2, 0.6)
            told = self.looked(lot)
            self.assertIs(told is not None, PlainTies(lot).torn())
            self.assertEqual(torn(lot), told)
            torn_ones += told is not None
        self.assertGreater(torn_ones, 80)

    def test_of_what_is_told_more_than_once_some_is_left_out(self):
        """Here the first reasons that are found are more than are needed, at the start, amid, at the end."""
        for told, against in ((["e=h", "e=y", "f:num(e)=y", "f:num(f:num(h))=y"], ["f:num(y)=y"]),
                              (["a=d", "a=f", "f=f:num(d)"], ["f:num(f:num(d))=f:num(f)"]),
                              (["e=f:num(e)", "f:num(h)=h", "h=x"], ["f:num(f:num(h))=f:num(f:num(x))"]),
                              (["d=f:num(d)", "f:num(d)=z", "f:num(z)=z"], ["d=f:num(f:num(z))"]),
                              (["e=f:num(z)", "e=z", "f:num(e)=z", "f:num(f:num(z))=z"],
                               ["e=f:num(f:num(e))", "f:num(plus(x,x))=f:num(z)"])):
            lot = clause_of([self.read(text, True) for text in told] + [self.read(text, False) for text in against])
            few, _ = self.looked(lot)
            self.assertLess(len(few), len(lot))

    def read(self, text, truth):
        """A literal of two terms with "=" between, names being of "num"."""
        terms = []
        for side in text.split("="):
            for name in "adefhxyz":
                side = re.sub(rf"\b{name}\b(?!:)", f"{name}:num", side)
            terms.append(read_term(side))
        return same(terms[0], terms[1], truth)

    def test_many_terms(self):
        names = [("name", "n" + chr(97 + at // 26) + chr(97 + at % 26), "num") for at in range(120)]
        lot = clause_of([same(one, other) for one, other in zip(names, names[1:])] + [same(f(names[0]), f(names[-1]),
                                                                                           False)])
        few, paper = torn(lot)
        self.assertEqual(few, lot)
        self.assertIs(check_torn(few, paper), True)
        self.assertEqual(len(tied(lot)), 2)


class CheckTornTest(unittest.TestCase):
    def setUp(self):
        self.lot = clause_of([same(X, Y), same(f(X), f(Y), False), (("most", X, Z), True), (("most", Y, Z), False)])
        self.numbers = {literal: number for number, literal in enumerate(self.lot)}

    def number(self, literal):
        return self.numbers[literal]

    def test_each_why(self):
        told = (X, Y, ("told", self.number(same(X, Y))))
        unlike = self.number(same(f(X), f(Y), False))
        within = (f(X), f(Y), ("within", (0,)))
        self.assertIs(check_torn(self.lot, ((told, within), ("unlike", unlike, 1))), True)
        turned = (Y, X, ("told", told[2][1]))
        back = (f(Y), f(X), ("within", (0,)))
        self.assertIs(check_torn(self.lot, ((turned, back), ("unlike", unlike, 1))), True)
        self.assertIs(check_torn(self.lot, ((turned, within), ("unlike", unlike, 1))), False)
        self.assertIs(check_torn(self.lot, ((turned, (X, Y, ("turned", 0)), (f(X), f(Y), ("within", (1,)))),
                                            ("unlike", unlike, 2))), True)
        through = (X, X, ("through", 0, 1))
        self.assertIs(check_torn(self.lot, ((told, turned, through, within), ("unlike", unlike, 3))), True)
        self.assertIs(check_torn(self.lot, ((told, turned, (X, Y, ("through", 0, 1)), within), ("unlike", unlike, 3))),
                      False)
        for term in (X, num_of(40), S, ("none",), f(S, sort="bits")):
            self.assertIs(check_torn(self.lot, ((told, within, (term, term, ("itself",))), ("unlike", unlike, 1))),
                          True)
        self.assertIs(check_torn(self.lot, ((told, within, (X, Y, ("itself",))), ("unlike", unlike, 1))), False)
        self.assertIs(check_torn(self.lot, ((told, within, (X, X, ("within", ()))), ("unlike", unlike, 1))), True)
        self.assertIs(check_torn(self.lot, ((told, within, (X, Y, ("within", ()))), ("unlike", unlike, 1))), False)
        self.assertIs(check_torn(self.lot, ((told, within), ("unlike", unlike, 0))), False)
        self.assertIs(check_torn(self.lot, ((told, within), ("unlike", told[2][1], 0))), False)

    def test_what_a_row_rests_on_must_be_of_its_terms(self):
        told = (X, Y, ("told", self.number(same(X, Y))))
        within = (f(X), f(Y), ("within", (0,)))
        end = ("unlike", self.number(same(f(X), f(Y), False)), 1)
        itself = [(term, term, ("itself",)) for term in (X, Y, Z)]
        for row, wanted in (((X, Y, ("through", 2, 0)), True), ((X, Y, ("through", 0, 3)), True),
                            ((X, Y, ("through", 2, 3)), False), ((X, Y, ("through", 0, 2)), False),
                            ((X, Z, ("through", 0, 4)), False), ((X, Y, ("turned", 0)), False),
                            ((Y, X, ("turned", 0)), True), ((Y, Z, ("turned", 0)), False),
                            ((X, X, ("turned", 2)), True),
                            ((X, Z, ("told", self.number((("most", X, Z), True)))), False),
                            ((f(X), f(Y), ("told", end[1])), False), ((f(X), f(X, X), ("within", (2,))), False),
                            ((f(X, X), f(X), ("within", (2,))), False),
                            ((f(X), f(X, sort="set"), ("within", (2,))), False),
                            ((f(X), f(X, name="g"), ("within", (2,))), False), ((X, Y, ("inner", 1, 0)), False),
                            ((("tip", X), ("tip", Y), ("within", (0,))), True),
                            ((("times", 2, X), ("times", 3, X), ("within", (2,))), False),
                            ((("plus", X, X), ("plus", Y, X), ("within", (0, 2))), True)):
            self.assertIs(check_torn(self.lot, ((told, within, *itself, row), end)), wanted, row)
        # In a chain of trees this would be so.
        chain = (told, within, (("tip", X), ("tip", Y), ("within", (0,))))
        self.assertIs(check_torn(self.lot, (chain, end)), True)
        self.assertIs(check_torn(self.lot, (chain + ((X, Y, ("inner", 2, 0)),), end)), False)

    def test_rows_of_whatever_terms(self):
        """A row that isn't needed may be of terms that are no parts, but must be so."""
        told = (X, Y, ("told", self.number(same(X, Y))))
        within = (f(X), f(Y), ("within", (0,)))
        unlike = ("unlike", self.number(same(f(X), f(Y), False)), 1)
        pair = ("plus", X, Y), ("plus", Y, Y)
        self.assertIs(check_torn(self.lot, ((told, within, (Y, Y, ("itself",)), pair + (("within", (0, 2)),)),
                                            unlike)), True)
        for why in (("within", (2, 0)), ("within", (0,)), ("within", (0, 2, 2)), ("within", [0, 2]),
                    ("within", (0, True)),
                    ("within", (0, 3)), ("within", 0, 2), ("within",), ("itself",), ("inner", 0, 0)):
            self.assertIs(check_torn(self.lot, ((told, within, (Y, Y, ("itself",)), pair + (why,)), unlike)), False,
                          why)

    def test_apart(self):
        told = (X, Y, ("told", self.number(same(X, Y))))
        itself = (Z, Z, ("itself",))
        high, low = self.number((("most", X, Z), True)), self.number((("most", Y, Z), False))
        self.assertIs(check_torn(self.lot, ((told, itself), ("apart", high, low, (0, 1)))), True)
        for end in (("apart", low, high, (0, 1)), ("apart", high, low, (1, 0)), ("apart", high, low, (0,)),
                    ("apart", high, low, [0, 1]), ("apart", high, low, (0, 1, 1)), ("apart", high, low, (0, 2)),
                    ("apart", high, low, (False, True)), ("apart", high, high, (0, 1)), ("apart", high, low),
                    ("apart",),
                    ("apart", high, 9, (0, 1)), ("apart", high, low - 4, (0, 1)), ("apart", high - 4, low, (0, 1)),
                    ("apart", float(high), low, (0, 1)), ("apart", 9, low, (0, 1)), ("other", high, low, (0, 1)),
                    ("apart", str(high), low, (0, 1)), ("unlike", high, 0)):
            self.assertIs(check_torn(self.lot, ((told, itself), end)), False, end)
        # Of one HEAD: most alone isn't enough of bits.
        lot = clause_of([(("bit", 0, B), True), (("bit", 1, B), False)])
        self.assertIs(check_torn(lot, (((B, B, ("itself",)),), ("apart", 0, 1, (0,)))), False)
        # Not of same.
        lot = clause_of([same(X, Y), same(X, Z, False), same(Y, Z)])
        chain = ((X, X, ("itself",)), (Y, Z, ("told", lot.index(same(Y, Z)))))
        numbers = (lot.index(same(X, Y)), lot.index(same(X, Z, False)))
        self.assertIs(check_torn(lot, (chain, ("apart",) + numbers + ((0, 1),))), False)
        # Not of two with one truth.
        for truth in (True, False):
            lot = clause_of([same(X, Y), (("most", X, Z), truth), (("most", Y, Z), truth)])
            numbers = (lot.index((("most", X, Z), truth)), lot.index((("most", Y, Z), truth)))
            chain = ((X, Y, ("told", lot.index(same(X, Y)))), (Z, Z, ("itself",)))
            self.assertIs(check_torn(lot, (chain, ("apart",) + numbers + ((0, 1),))), False)

    def test_false_of_anything(self):
        for lot in (self.lot, ()):
            for thing in wrong_things():
                for paper in (thing, (thing, ("unlike", 0, 0)), ((), thing), ((thing,), ("unlike", 0, 0)),
                              (((X, X, thing),), ("unlike", 0, 0)), (((thing, thing, ("itself",)),), ("unlike", 0, 0)),
                              (((X, Y, ("told", thing)),), ("unlike", 0, 0)),
                              (((X, X, ("itself",)),), ("unlike", thing, 0)),
                              (((X, X, ("itself",)),), ("unlike", 0, thing)),
                              (((X, X, ("within", thing)),), ("unlike", 0, 0)),
                              (((X, X, ("itself",)),), ("apart", 0, 1, thing))):
                    self.assertIs(check_torn(lot, paper), False)

    def test_spoilt_in_one_place(self):
        chance = random.Random(13)
        seen = 0
        while seen < 12:
            told = torn(chance_lot(chance, WORDS, 9, 2, 0.6))
            if told is not None and len(told[1][0]) < 8:
                seen += 1
                for paper in spoilt(told[1]):
                    self.assertIs(check_torn(told[0], paper), plain_paper_of_ties(told[0], paper), paper)


if __name__ == "__main__":
    unittest.main()
