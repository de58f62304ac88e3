"""TREES: REFUTE compared with plain going round and with planted trees, LOOK with a plain looker."""

import inspect
import random
import unittest

from allsorts import trees
from allsorts.clauses import clause_of, turned_right
from allsorts.errors import BadText, BadValue
from allsorts.terms import sort_of
from allsorts.ties import is_lot
from allsorts.trees import look_trees, refute_trees
from allsorts.values import Model
from tests.papers import plain_cert_of_trees, spoilt
from tests.plain import PlainTies, chance_lot, chance_term, plain_lot_of_trees
from tests.samples import P, Q, X, Y, Rude, wrong_things

T = ("name", "t", "tree")
U = ("name", "u", "tree")
V = ("name", "v", "tree")
S = ("name", "s", "set")
WORDS = ["tree", "tree", "tree", "num", "same", "most", "prop"]


def tip(term):
    return ("tip", term)


def node(one, other):
    return ("node", one, other)


def same(one, other, truth=True):
    return (turned_right(("same", one, other)), truth)


class TreesTest(unittest.TestCase):
    def refuted(self, literals):
        """What is told, looked at."""
        told = refute_trees(literals)
        self.assertEqual(refute_trees(tuple(literals)), told)
        if told is not None:
            lot, cert = told
            self.assertIs(is_lot(lot), True)
            self.assertTrue(set(lot) <= set(literals))
            self.assertIs(look_trees(lot, cert), True)
            self.assertTrue(plain_cert_of_trees(lot, cert))
        return told

    def end(self, *literals):
        """The word of the END where no trees can be found, else None."""
        told = self.refuted(list(literals))
        return None if told is None else told[1][1][0]

    def test_arguments_and_files(self):
        for name, arguments in (("refute_trees", ["literals"]), ("look_trees", ["lot", "cert"])):
            function = getattr(trees, name)
            self.assertEqual(function.__module__, "allsorts.trees")
            self.assertEqual(list(inspect.signature(function).parameters), arguments)
        self.assertIsNone(refute_trees(literals=[]))
        self.assertIs(look_trees(lot=(), cert=None), False)

    def test_what_stands_in_tied_ones_is_tied(self):
        self.assertEqual(self.end(same(tip(X), tip(Y)), same(X, Y, False)), "unlike")
        self.assertEqual(self.end(same(node(T, U), node(U, V)), same(T, V, False)), "unlike")
        self.assertEqual(self.end(same(T, node(U, tip(X))), same(T, node(V, tip(Y))), same(X, Y, False)), "unlike")
        self.assertIsNone(self.end(same(tip(X), tip(Y)), same(X, Y)))
        self.assertIsNone(self.end(same(T, node(U, tip(X))), same(T, node(V, tip(Y))), same(U, tip(X), False)))

    def test_within(self):
        self.assertEqual(self.end(same(X, Y), same(tip(X), tip(Y), False)), "unlike")
        call = ("call", "f", (X,), "tree")
        other = ("call", "f", (Y,), "tree")
        self.assertEqual(self.end(same(X, Y), same(call, other, False)), "unlike")
        self.assertIsNone(self.end(same(X, Y, False), same(call, other)))
        one = ("call", "f", (("one", X),), "num")
        self.assertEqual(self.end(same(X, Y), same(one, ("call", "f", (("one", Y),), "num"), False)), "unlike")

    def test_a_tip_is_no_node(self):
        self.assertEqual(self.end(same(tip(X), node(T, U))), "words")
        self.assertEqual(self.end(same(T, tip(X)), same(T, U), same(U, node(V, V))), "words")
        self.assertIsNone(self.end(same(tip(X), node(T, U), False)))

    def test_no_tree_stands_within_itself(self):
        self.assertEqual(self.end(same(T, node(T, U))), "ring")
        self.assertEqual(self.end(same(T, node(U, T))), "ring")
        self.assertEqual(self.end(same(T, node(node(T, U), V))), "ring")
        self.assertEqual(self.end(same(T, node(U, V)), same(U, node(V, V)), same(V, node(T, T))), "ring")
        self.assertEqual(self.end(same(node(T, U), node(U, node(T, V)))), "ring")
        self.assertIsNone(self.end(same(T, node(U, V)), same(U, node(V, V))))
        self.assertIsNone(self.end(same(T, node(T, U), False)))

    def test_numbers_are_taken_as_names(self):
        one, two = ("number", 1), ("number", 2)
        self.assertIsNone(self.end(same(one, two)))
        self.assertIsNone(self.end(same(tip(one), tip(two))))
        self.assertIsNone(self.end(same(("plus", X, Y), ("plus", Y, X), False)))
        self.assertIsNone(self.end(same(("times", 0, X), ("number", 0), False)))
        self.assertEqual(self.end(same(X, one), same(("plus", X, Y), ("plus", one, Y), False)), "unlike")
        self.assertIsNone(self.end(same(X, Y), same(("times", 2, X), ("times", 3, Y), False)))

    def test_other_literals_are_passed_over(self):
        others = [(("most", X, X), False), (P, True), same(S, S, False), (("in", X, ("none",)), True),
                  (("bit", 0, ("bits", 0)), True), same(("name", "b", "bits"), ("name", "b", "bits"), False)]
        self.assertIsNone(self.end(*others))
        lot, _ = self.refuted(others + [same(T, node(T, T)), same(U, V)])
        self.assertEqual(lot, (same(T, node(T, T)),))
        self.assertEqual(self.refuted([same(X, X, False)])[0], (same(X, X, False),))

    def test_in_whatever_order_and_twice(self):
        literals = [same(T, node(U, V)), same(U, node(V, V)), same(V, node(T, T)), (P, True)]
        told = self.refuted(literals)
        self.assertEqual(self.refuted(literals[::-1] + literals), told)

    def test_as_plain_going_round_tells(self):
        chance = random.Random(14)
        words = {}
        for _ in range(600):
            lot = chance_lot(chance, WORDS, 8, 2, 0.65)
            told = self.refuted(list(lot))
            self.assertIs(told is not None, PlainTies(plain_lot_of_trees(lot), True).no_trees())
            if told is not None:
                words[told[1][1][0]] = words.get(told[1][1][0], 0) + 1
        self.assertGreater(min(words.get(word, 0) for word in ("unlike", "words", "ring")), 10)

    def test_planted_trees(self):
        """What holds by a model, by which plus, times and calls are as calls must be, is not refuted."""
        chance = random.Random(15)
        names = {"num": [X, Y, ("number", 2)], "tree": [T, U, V], "thing": [("name", "o", "thing")], "set": [S],
                 "bits": [("name", "b", "bits")]}
        pair = ("node", ("tip", (1, 1)), ("tip", (2, 1)))
        truths = []
        for _ in range(200):
            model = Model([("x", "num", (1, 1)), ("y", "num", (chance.choice([1, 2]), 1)),
                           ("t", "tree", ("tip", (1, 1))),
                           ("u", "tree", pair), ("v", "tree", chance.choice([("tip", (2, 1)), pair]))])
            terms = [chance_term(chance, chance.choice(["num", "tree"]), 2, names) for _ in range(12)]
            atoms = [turned_right(("same", one, other)) for one in terms for other in terms
                     if sort_of(one) == sort_of(other) and chance.random() < 0.4]
            lot = clause_of([(atom, model.holds(atom)) for atom in atoms])
            truths.extend([truth for _, truth in lot])
            self.assertIsNone(self.refuted(list(lot)))
        self.assertGreater(min(truths.count(True), truths.count(False)), 500)

    def test_many_terms(self):
        names = [("name", "n" + chr(97 + at // 26) + chr(97 + at % 26), "tree") for at in range(200)]
        down = [same(one, node(other, U)) for one, other in zip(names, names[1:])]
        self.assertIsNone(self.refuted(down))
        lot, cert = self.refuted(down + [same(names[-1], node(V, names[0]))])
        self.assertEqual((len(lot), cert[1][0]), (200, "ring"))
        self.assertEqual(self.end(*down, same(names[-1], names[0])), "ring")

    def test_refused(self):
        for thing in wrong_things():
            if not (type(thing) in (list, tuple) and len(thing) == 0):
                self.refused("literals", refute_trees, thing)
            self.refused("literals", refute_trees, [thing])
            self.refused("literals", refute_trees, ((P, True), thing))
        for thing in ([(P, True), (P, False)], (same(T, U), (Q, True), same(T, U, False)), [(("part", 0), True)],
                      [(("same", U, T), True)], [(P, 1)], [[P, True]], (P, True), {(P, True)}, [P], [same(T, U), None]):
            self.refused("literals", refute_trees, thing)
        for thing in [[], [same(T, U)], ((P, False), (P, True)), ((("part", 0), True),), (P, True), None, Rude()]:
            self.refused("lot", look_trees, thing, None)
        for thing in wrong_things():
            if not is_lot(thing):
                self.refused("lot", look_trees, thing, thing)

    def refused(self, what, function, *arguments):
        with self.assertRaises(BadValue) as caught:
            function(*arguments)
        self.assertEqual(caught.exception.what, what)
        self.assertNotIsInstance(caught.exception, BadText)


class LookTest(unittest.TestCase):
    def test_each_end(self):
        lot = (same(T, node(T, U)),)
        cert = (((T, node(T, U), ("told", 0)),), ("ring", (0,)))
        self.assertIs(look_trees(lot, cert), True)
        turned = (((node(T, U), T, ("told", 0)),), ("ring", (0,)))
        self.assertIs(look_trees(lot, turned), False)
        for end in (("ring", ()), ("ring", [0]), ("ring", (1,)), ("ring", (False,)), ("ring", 0), ("ring",),
                    ("ring", (0,), 0),
                    ("words", 0), ("unlike", 0, 0), ("apart", 0, 0, (0, 0))):
            self.assertIs(look_trees(lot, (cert[0], end)), False, end)
        self.assertIs(look_trees(lot, (cert[0], ("ring", (0, 0)))), True)
        # Of what is no node, and of what doesn't stand in the node, there is no ring.
        for one, other in ((X, ("plus", X, Y)), (T, ("call", "f", (T,), "tree")), (V, node(T, U)), (V, U)):
            self.assertIs(look_trees((same(one, other),), (((one, other, ("told", 0)),), ("ring", (0,)))), False)
        lot = (same(tip(X), node(T, U)),)
        for row in ((tip(X), node(T, U), ("told", 0)), (node(T, U), tip(X), ("told", 0))):
            self.assertIs(look_trees(lot, ((row,), ("words", 0))), True)
            for end in (("words", 1), ("words", -1), ("words", False), ("words",), ("words", (0,)), ("words", 0, 0),
                        ("word", 0)):
                self.assertIs(look_trees(lot, ((row,), end)), False, end)

    def test_inner(self):
        lot = clause_of([same(node(T, U), node(U, V)), same(T, U, False)])
        told = (node(T, U), node(U, V), ("told", 0 if lot[0][1] else 1))
        unlike = 1 if lot[0][1] else 0
        self.assertIs(look_trees(lot, ((told, (T, U, ("inner", 0, 0))), ("unlike", unlike, 1))), True)
        for row in ((T, U, ("inner", 0, 1)), (U, T, ("inner", 0, 0)), (T, U, ("inner", 0, 2)), (T, U, ("inner", 0, -1)),
                    (T, U, ("inner", 1, 0)), (T, U, ("inner", 0, False)), (T, U, ("inner", 0)),
                    (T, U, ("inner", False, 0))):
            self.assertIs(look_trees(lot, ((told, row), ("unlike", unlike, 1))), False, row)
        self.assertIs(look_trees(lot, ((told, (U, V, ("inner", 0, 1)), (T, U, ("inner", 0, 0))),
                                       ("unlike", unlike, 2))), True)
        # Of other words nothing is told of what stands in them.
        lot = clause_of([same(("plus", X, Y), ("plus", Y, Y)), same(X, Y, False)])
        chain = ((("plus", X, Y), ("plus", Y, Y), ("told", 0)), (X, Y, ("inner", 0, 0)))
        self.assertIs(look_trees(lot, (chain, ("unlike", 1, 1))), False)
        # Nor of a tip and a node.
        lot = (same(tip(X), node(T, U)),)
        told = (tip(X), node(T, U), ("told", 0))
        self.assertIs(look_trees(lot, ((told, (X, T, ("inner", 0, 0))), ("words", 0))), False)
        self.assertIs(look_trees(lot, ((told, (X, X, ("itself",))), ("words", 0))), True)
        # A tip has one place.
        lot = clause_of([same(tip(X), tip(Y)), same(X, Y, False)])
        told = (tip(X), tip(Y), ("told", 0 if lot[0][1] else 1))
        for place, wanted in ((0, True), (1, False), (-1, False)):
            cert = ((told, (X, Y, ("inner", 0, place))), ("unlike", 1 if lot[0][1] else 0, 1))
            self.assertIs(look_trees(lot, cert), wanted)

    def test_other_atoms_make_it_false(self):
        few = (same(T, node(T, U)),)
        cert = (((T, node(T, U), ("told", 0)),), ("ring", (0,)))
        for other in ((("most", X, Y), True), (P, True), same(S, S), (("in", X, S), True),
                      (("bit", 0, ("bits", 1)), False)):
            lot = clause_of(list(few) + [other])
            told = (((T, node(T, U), ("told", lot.index(few[0]))),), ("ring", (0,)))
            self.assertIs(look_trees(lot, told), False)
        lot = clause_of(list(few) + [same(X, Y)])
        self.assertIs(look_trees(lot, (((T, node(T, U), ("told", lot.index(few[0]))),), ("ring", (0,)))), True)
        self.assertIs(look_trees(few, cert), True)

    def test_false_of_anything(self):
        row = (T, node(T, U), ("told", 0))
        self.assertIs(look_trees((same(T, node(T, U)),), ((row,), ("ring", (0,)))), True)
        for lot in ((), (same(T, node(T, U)),), ((P, True),)):
            # 0 is the number of a row.
            for thing in [thing for thing in wrong_things() if not (type(thing) is int and thing == 0)]:
                for cert in (thing, (thing, ("ring", (0,))), ((row,), thing), ((row,), ("ring", thing)),
                             ((row,), ("ring", (thing,))), ((row,), ("words", thing)),
                             ((row, (T, T, thing)), ("ring", (0,))), ((thing, row), ("ring", (1,))),
                             ((row, (T, T, ("inner", thing, 0))), ("ring", (0,))),
                             ((row, (T, T, ("inner", 0, thing))), ("ring", (0,)))):
                    self.assertIs(look_trees(lot, cert), False)

    def test_spoilt_in_one_place(self):
        chance = random.Random(16)
        seen = {}
        while sum(seen.values()) < 14:
            told = refute_trees(chance_lot(chance, WORDS, 8, 2, 0.65))
            word = None if told is None else told[1][1][0]
            if told is not None and len(told[1][0]) < 7 and seen.get(word, 0) < 5:
                seen[word] = seen.get(word, 0) + 1
                for cert in spoilt(told[1]):
                    self.assertIs(look_trees(told[0], cert), plain_cert_of_trees(told[0], cert), cert)


if __name__ == "__main__":
    unittest.main()
