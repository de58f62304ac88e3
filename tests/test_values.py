"""VALUES, FRACTIONS, and models: what a term comes to by them, what holds, and what is refused."""

import inspect
import itertools
import random
import unittest
from fractions import Fraction

from allsorts import values
from allsorts.errors import BadText, BadValue
from allsorts.sayings import is_saying
from allsorts.terms import SORTS, is_term, sort_of
from allsorts.values import Model, is_fraction, is_value, less, plain_value
from tests.plain import chance_atom, chance_term, inner_of
from tests.samples import (ATOMS, SAYINGS, TERMS, P, Q, X, Y, Rude, chain_of, full_tree, nots, num_of, tree_of,
                           wrong_things, wrong_values)

PLAIN = {"thing": 0, "num": (0, 1), "tree": ("tip", (0, 1)), "set": (), "bits": 0}
GOOD = {
    "thing": [0, 1, 16, 10 ** 999],
    "num": [(0, 1), (1, 1), (-1, 1), (1, 2), (-2, 3), (10 ** 999, 1), (1, 10 ** 999)],
    "tree": [("tip", (0, 1)), ("tip", (-1, 2)), ("node", ("tip", (0, 1)), ("tip", (0, 1))), tree_of(40), full_tree(9)],
    "set": [(), ((0, 1),), ((-1, 2), (-1, 3), (0, 1), (1, 3), (1, 2)), tuple((k, 1) for k in range(5000))],
    "bits": [0, 1, 15],
}
O = ("name", "o", "thing")
T = ("name", "t", "tree")
S = ("name", "s", "set")
B = ("name", "b", "bits")


class InterfaceTest(unittest.TestCase):
    def test_arguments_and_files(self):
        for name, arguments in (("is_value", ["thing", "sort"]), ("plain_value", ["sort"]), ("is_fraction", ["thing"]),
                                ("less", ["one", "other"]), ("Model", ["names", "calls", "props"])):
            self.assertEqual(getattr(values, name).__module__, "allsorts.values")
            self.assertEqual(list(inspect.signature(getattr(values, name)).parameters), arguments)
        kinds = [row.kind for row in inspect.signature(Model).parameters.values()]
        self.assertEqual(kinds, [inspect.Parameter.POSITIONAL_OR_KEYWORD] + [inspect.Parameter.KEYWORD_ONLY] * 2)
        for name, arguments in (("names", []), ("calls", []), ("props", []), ("value", ["term"]), ("holds", ["saying"]),
                                ("with_name", ["name", "sort", "value"])):
            self.assertIn(name, vars(Model))
            self.assertEqual(list(inspect.signature(vars(Model)[name]).parameters), ["self"] + arguments)
        for name in ("__eq__", "__len__", "__repr__", "__init__"):
            self.assertIn(name, vars(Model))

    def test_arguments_by_name(self):
        self.assertIs(is_value(thing=0, sort="bits"), True)
        self.assertEqual(plain_value(sort="set"), ())
        self.assertIs(is_fraction(thing=(1, 2)), True)
        self.assertIs(less(one=(1, 3), other=(1, 2)), True)
        model = Model(names=[("x", "num", (1, 1))], calls=(), props=["p"])
        self.assertEqual(model.value(term=X), (1, 1))
        self.assertIs(model.holds(saying=P), True)
        self.assertEqual(model.with_name(name="x", sort="num", value=(2, 1)).value(X), (2, 1))


class ValueTest(unittest.TestCase):
    def test_good_ones(self):
        for sort in SORTS:
            for value in GOOD[sort]:
                self.assertIs(is_value(value, sort), True)
            self.assertEqual(plain_value(sort), PLAIN[sort])
            self.assertIs(is_value(plain_value(sort), sort), True)

    def test_those_of_another_sort(self):
        for sort, other in itertools.permutations(SORTS, 2):
            for value in GOOD[other]:
                wanted = {sort, other} == {"thing", "bits"} and value < 16
                self.assertIs(is_value(value, sort), wanted)

    def test_bounds(self):
        self.assertIs(is_value(15, "bits"), True)
        self.assertIs(is_value(16, "bits"), False)
        self.assertIs(is_value(-1, "bits"), False)
        self.assertIs(is_value(-1, "thing"), False)
        self.assertIs(is_value(tree_of(40), "tree"), True)
        self.assertIs(is_value(tree_of(41), "tree"), False)
        # Such trees are of an odd number: of one node, of 511 in one side, of so many in the other one.
        for size, wanted in ((85, True), (87, True), (89, False), (91, False)):
            tree = ("node", full_tree(9), self.tree_of_size(size))
            self.assertEqual(self.size(tree), 512 + size)
            self.assertIs(is_value(tree, "tree"), wanted, size)
            self.assertIs(is_value(("node", tree[2], tree[1]), "tree"), wanted, size)

    def size(self, tree):
        return 1 if tree[0] == "tip" else 1 + self.size(tree[1]) + self.size(tree[2])

    def tree_of_size(self, size):
        if size == 1:
            return ("tip", (0, 1))
        half = (size - 1) // 2
        half += half % 2 == 0
        return ("node", self.tree_of_size(half), self.tree_of_size(size - 1 - half))

    def test_wrong_ones(self):
        for thing in wrong_values():
            for sort in SORTS:
                self.assertIs(is_value(thing, sort), False, sort)
        # A FRACTION that is none stands here as a number alone.
        for thing in wrong_values():
            self.assertIs(is_fraction(thing), False)

    def test_of_anything(self):
        for thing in wrong_things():
            self.assertIs(is_fraction(thing), False)
            for sort in SORTS:
                wanted = type(thing) is int and thing >= 0 and (sort == "thing" or sort == "bits" and thing < 16)
                wanted = wanted or (sort == "set" and type(thing) is tuple and len(thing) == 0)
                self.assertIs(is_value(thing, sort), wanted)

    def test_plain_value_refused(self):
        for thing in wrong_things() + ["Num", "nums", "", ("num",), ["num"], b"num"]:
            with self.assertRaises(BadValue) as caught:
                plain_value(thing)
            self.assertEqual(caught.exception.what, "sort")
            self.assertNotIsInstance(caught.exception, BadText)

    def test_fractions(self):
        for over in range(-6, 7):
            for under in range(-3, 7):
                wanted = under > 0 and (Fraction(over, under).numerator, Fraction(over, under).denominator) == (over,
                                                                                                                under)
                self.assertIs(is_fraction((over, under)), wanted, (over, under))

    def test_less(self):
        numbers = [Fraction(over, under) for over in range(-4, 5) for under in range(1, 5)]
        for one, other in itertools.product(numbers, numbers):
            told = less((one.numerator, one.denominator), (other.numerator, other.denominator))
            self.assertIs(told, one < other)

    def test_less_refused(self):
        for thing in wrong_things() + wrong_values():
            for arguments, what in (((thing, (1, 2)), "one"), (((1, 2), thing), "other"), ((thing, thing), "one")):
                with self.assertRaises(BadValue) as caught:
                    less(*arguments)
                self.assertEqual(caught.exception.what, what)


class ModelTest(unittest.TestCase):
    def refused(self, what, function, *arguments, **named):
        with self.assertRaises(BadValue) as caught:
            function(*arguments, **named)
        self.assertEqual(caught.exception.what, what)
        self.assertNotIsInstance(caught.exception, BadText)

    def test_what_is_told_is_sorted(self):
        names = [("y", "num", (1, 2)), ("b", "bits", 3), ("x", "set", ((0, 1),)), ("a", "tree", ("tip", (1, 1)))]
        calls = [("f", (("num", (1, 1)),), "num", (0, 1)), ("f", (("num", (-1, 2)),), "set", ()),
                 ("f", (("num", (-1, 2)),), "num", (5, 1)), ("f", (("bits", 3), ("set", ())), "num", (0, 1)),
                 ("e", (("tree", ("tip", (0, 1))),), "thing", 7), ("f", (("bits", 3),), "num", (0, 1)),
                 ("f", (("tree", ("node", ("tip", (0, 1)), ("tip", (0, 1)))),), "num", (0, 1))]
        props = ["q", "p", "a"]
        model = Model(names, calls=calls, props=props)
        self.assertEqual(model.names(), tuple(sorted(names)))
        self.assertEqual(model.calls(), tuple(sorted(calls)))
        self.assertEqual(model.props(), ("a", "p", "q"))
        for told in (model.names(), model.calls(), model.props()):
            self.assertIs(type(told), tuple)
        for rows in itertools.permutations(names):
            self.assertEqual(Model(tuple(rows), calls=tuple(calls[::-1]), props=tuple(props)), model)
        # Tuples are compared, not numbers: 1/2 comes ahead of 1/3 nowhere, but (1, 2) ahead of (1, 3).
        rows = [("f", (("num", (1, 3)),), "num", (0, 1)), ("f", (("num", (1, 2)),), "num", (0, 1))]
        self.assertEqual(Model(calls=rows).calls(), tuple(rows[::-1]))

    def test_without_anything(self):
        model = Model()
        self.assertEqual((model.names(), model.calls(), model.props(), len(model)), ((), (), (), 0))
        for sort in SORTS:
            self.assertEqual(model.value(("name", "x", sort)), PLAIN[sort])
            self.assertEqual(model.value(("call", "f", (X,), sort)), PLAIN[sort])
        self.assertIs(model.holds(P), False)

    def test_equality_length_and_text(self):
        row = ("f", (("num", (1, 1)),), "num", (2, 1))
        model = Model([("x", "num", (1, 1))], calls=[row], props=["p"])
        self.assertTrue(model == Model((("x", "num", (1, 1)),), calls=(row,), props=("p",)))
        self.assertFalse(model != Model([("x", "num", (1, 1))], calls=[row], props=["p"]))
        for other in (Model(), Model([("x", "num", (1, 2))], calls=[row], props=["p"]), Model([("x", "num", (1, 1))]),
                      Model([("x", "num", (1, 1))], calls=[row]), Model([("x", "num", (1, 1))], props=["p"]),
                      Model([("x", "num", (1, 1))], calls=[row], props=["q"])):
            self.assertFalse(model == other)
            self.assertTrue(model != other)
        for thing in (None, 1, "x", (), (("x", "num", (1, 1)),), Rude(), [], object()):
            self.assertFalse(model == thing)
        self.assertEqual(len(model), 1)
        self.assertEqual(repr(model), "Model(1 names)")
        self.assertEqual(repr(Model()), "Model(0 names)")
        three = Model([("x", "num", (1, 1)), ("y", "num", (1, 1)), ("z", "bits", 1)])
        self.assertEqual((repr(three), len(three)), ("Model(3 names)", 3))

    def test_names_refused(self):
        good = ("x", "num", (1, 1))
        for row in (("x", "num"), ("x", "num", (1, 1), 0), ["x", "num", (1, 1)], ("X", "num", (1, 1)),
                    ("x", "Num", (1, 1)),
                    ("x", "num", (2, 2)), ("x", "num", 1), ("x", "bits", 16), ("x", "bits", True), ("x", "thing", -1),
                    ("x", "set", [(1, 1)]), ("x", "set", ((1, 1), (0, 1))), ("x", "tree", tree_of(41)),
                    ("", "num", (1, 1)),
                    ("abcdefg", "num", (1, 1)), ("x", "tree", full_tree(10)), None, "xyz", X):
            for names in ([row], (row,), [good, row], [row, good]):
                self.refused("names", Model, names)
        for names in ([good, good], (good, ("x", "num", (2, 1))), [good, ("x", "bits", 1)],
                      [good, ("y", "num", (1, 1)), good]):
            self.refused("names", Model, names)
        for thing in wrong_things():
            if not (type(thing) in (list, tuple) and len(thing) == 0):
                self.refused("names", Model, thing)
            self.refused("names", Model, [thing])
            self.refused("names", Model, [("x", "tree", thing)])

    def test_calls_refused(self):
        good = ("f", (("num", (1, 1)),), "num", (2, 1))
        pair = ("bits", 1)
        for row in (good[:3], good + (1,), list(good), ("F",) + good[1:], ("f", [("num", (1, 1))], "num", (2, 1)),
                    ("f", (), "num", (2, 1)), ("f", (pair,) * 4, "num", (2, 1)), ("f", (("bits", 16),), "num", (2, 1)),
                    ("f", (["bits", 1],), "num", (2, 1)), ("f", (("bits", 1, 1),), "num", (2, 1)),
                    ("f", pair, "num", (2, 1)),
                    ("f", (pair,), "num", 1), ("f", (pair,), "nums", (2, 1)), ("f", (("bit", 1),), "num", (2, 1)),
                    ("f", (("bits", True),), "num", (2, 1)), None, "abcd"):
            for calls in ([row], (row,), [good, row]):
                with self.assertRaises(BadValue) as caught:
                    Model(calls=calls)
                self.assertEqual(caught.exception.what, "calls")
        self.refused("calls", Model, calls=[good, good])
        self.refused("calls", Model, calls=[good, good[:3] + ((3, 1),)])
        self.assertEqual(len(Model(calls=[good, ("f", good[1], "set", ())]).calls()), 2)
        self.assertEqual(len(Model(calls=[good, ("f", good[1] * 2, "num", (2, 1))]).calls()), 2)
        self.assertEqual(len(Model(calls=[good, ("g",) + good[1:], ("f", (pair,) * 3, "num", (2, 1))]).calls()), 3)
        for thing in wrong_things():
            if not (type(thing) in (list, tuple) and len(thing) == 0):
                self.refused("calls", Model, calls=thing)
            self.refused("calls", Model, calls=[thing])
            self.refused("calls", Model, calls=[("f", (("tree", thing),), "num", (0, 1))])

    def test_props_refused(self):
        for props in (["p", "p"], ("p", "q", "p"), ["P"], [""], ["abcdefg"], [P], [None], "p", {"p": 1}, [["p"]], None):
            self.refused("props", Model, props=props)

    def test_the_first_refusal_is_given(self):
        self.refused("names", Model, 1, calls=1, props=1)
        self.refused("calls", Model, [], calls=1, props=1)
        self.refused("names", Model, props=1, calls=1, names=[("x", "num", (1, 1))] * 2)
        self.refused("calls", Model, props=["p", "p"], calls=[None])

    def test_names_and_calls_count_by_their_sorts(self):
        names = [("x", "num", (3, 1))]
        calls = [("f", (("num", (3, 1)),), "num", (7, 1)), ("f", (("num", (3, 1)),), "bits", 9),
                 ("f", (("num", (3, 1)), ("num", (3, 1))), "num", (8, 1)), ("f", (("thing", 0),), "num", (9, 1)),
                 ("f", (("bits", 0),), "num", (10, 1))]
        model = Model(names, calls=calls)
        self.assertEqual(model.value(X), (3, 1))
        self.assertEqual(model.value(("name", "x", "set")), ())
        self.assertEqual(model.value(Y), (0, 1))
        for inner, sort, value in (((X,), "num", (7, 1)), ((X,), "bits", 9), ((X, X), "num", (8, 1)),
                                   ((O,), "num", (9, 1)),
                                   ((B,), "num", (10, 1)), ((Y,), "num", (0, 1)), ((X, Y), "num", (0, 1)),
                                   ((X, X, X), "num", (0, 1)), ((T,), "num", (0, 1)), ((X,), "set", ())):
            self.assertEqual(model.value(("call", "f", inner, sort)), value)
            self.assertEqual(model.value(("call", "g", inner, sort)), PLAIN[sort])
        self.assertEqual(model.value(("call", "f", (("plus", ("number", 1), ("number", 2)),), "num")), (7, 1))

    def test_what_a_term_comes_to(self):
        model = Model([("x", "num", (1, 2)), ("y", "num", (-1, 3)), ("s", "set", ((-1, 3), (0, 1), (2, 1))),
                       ("b", "bits", 6),
                       ("t", "tree", ("tip", (5, 1))), ("r", "set", ((0, 1), (1, 2)))])
        r = ("name", "r", "set")
        for term, value in ((("number", -3), (-3, 1)), (("plus", X, Y), (1, 6)), (("times", -4, X), (-2, 1)),
                            (("times", 0, X), (0, 1)), (("plus", X, X), (1, 1)), (("tip", X), ("tip", (1, 2))),
                            (("node", T, ("tip", Y)), ("node", ("tip", (5, 1)), ("tip", (-1, 3)))), (("none",), ()),
                            (("one", Y), ((-1, 3),)), (("union", S, r), ((-1, 3), (0, 1), (1, 2), (2, 1))),
                            (("both", S, r), ((0, 1),)), (("without", S, r), ((-1, 3), (2, 1))),
                            (("without", r, S), ((1, 2),)),
                            (("union", S, ("none",)), ((-1, 3), (0, 1), (2, 1))),
                            (("both", S, S), ((-1, 3), (0, 1), (2, 1))),
                            (("without", S, S), ()), (("bits", 11), 11), (("band", B, ("bits", 12)), 4),
                            (("bor", B, ("bits", 9)), 15), (("badd", B, ("bits", 12)), 2), (("badd", B, B), 12),
                            (("badd", ("bits", 15), ("bits", 1)), 0), (("badd", ("bits", 15), ("bits", 15)), 14),
                            (("bnot", B), 9), (("bnot", ("bits", 0)), 15)):
            self.assertEqual(model.value(term), value, term)

    def test_all_bits(self):
        for one, other in itertools.product(range(16), range(16)):
            pair = (("bits", one), ("bits", other))
            self.assertEqual(Model().value(("band",) + pair), one & other)
            self.assertEqual(Model().value(("bor",) + pair), one | other)
            self.assertEqual(Model().value(("badd",) + pair), (one + other) % 16)
        for one, number in itertools.product(range(16), range(4)):
            self.assertEqual(Model().value(("bnot", ("bits", one))), 15 - one)
            self.assertIs(Model().holds(("bit", number, ("bits", one))), one // 2 ** number % 2 == 1)

    def test_what_holds(self):
        model = Model([("x", "num", (1, 2)), ("y", "num", (1, 3)), ("s", "set", ((1, 2),)), ("b", "bits", 5)],
                      props=["p"])
        for saying, wanted in ((P, True), (Q, False), (("most", Y, X), True), (("most", X, Y), False),
                               (("most", X, X), True),
                               (("same", X, Y), False), (("same", ("plus", X, X), ("number", 1)), True),
                               (("in", X, S), True),
                               (("in", Y, S), False), (("bit", 0, B), True), (("bit", 1, B), False),
                               (("bit", 2, B), True),
                               (("not", P), False), (("not", Q), True), (("and", ()), True), (("or", ()), False),
                               (("and", (P, Q)), False), (("or", (P, Q)), True), (("or", (Q, Q)), False),
                               (("and", (P, P)), True), (("same", S, ("one", X)), True),
                               (("same", ("tip", X), T), False),
                               (("same", ("bits", 5), B), True), (("same", O, O), True)):
            self.assertIs(model.holds(saying), wanted, saying)

    def test_sayings_that_do_not_fit_hold_or_not(self):
        model = Model([("x", "num", (1, 1))])
        self.assertIs(model.holds(("in", X, ("one", X))), True)
        self.assertIs(model.holds(("in", X, ("name", "x", "set"))), False)

    def test_each_sample(self):
        for row in TERMS:
            self.assertIs(is_value(Model().value(row[0]), row[1]), True, row[2])
        for row in ATOMS + SAYINGS:
            if is_saying(("not", row[0])):
                self.assertIs(Model().holds(("not", row[0])), not Model().holds(row[0]), row[1])

    def test_greater_than_any_value(self):
        tree = full_tree(9)
        same = ("node", full_tree(8), full_tree(8))
        model = Model([("t", "tree", tree), ("u", "tree", same), ("d", "tree", tree_of(40))])
        self.assertIs(is_value(("node", tree, tree), "tree"), False)
        u, d = ("name", "u", "tree"), ("name", "d", "tree")
        for _ in range(4):
            wide = ("node", ("node", ("node", T, T), ("node", T, T)), ("node", ("node", T, T), ("node", T, T)))
            other = ("node", ("node", ("node", u, u), ("node", u, u)), ("node", ("node", u, T), ("node", T, u)))
            self.assertIs(model.holds(("same", wide, other)), True)
            self.assertIs(model.holds(("same", wide, T)), False)
            self.assertEqual(model.value(("node", T, u)), ("node", tree, tree))
            deep = ("node", d, ("node", d, ("node", d, d)))
            self.assertEqual(model.value(deep)[2][2][2], tree_of(40))
            # A call of what is greater than any VALUE has no row.
            self.assertEqual(model.value(("call", "f", (wide, deep), "num")), (0, 1))
        row = ("f", (("tree", tree),), "num", (4, 1))
        self.assertEqual(Model([("u", "tree", same)], calls=[row]).value(("call", "f", (u,), "num")), (4, 1))

    def test_as_plain_working_tells(self):
        chance = random.Random(3)
        for _ in range(300):
            names = [("x", "num", (chance.randint(-3, 3), 1)), ("s", "set", ((0, 1), (chance.randint(1, 3), 1))),
                     ("b", "bits", chance.randrange(16)), ("t", "tree", ("tip", (chance.randint(0, 1), 1)))]
            calls = [("fb", (("num", (number, 1)),), "num", (number + 1, 1)) for number in range(-2, 3)]
            model = Model(names, calls=calls, props=["p"])
            term = chance_term(chance, chance.choice(SORTS), 4, {**self.pools()})
            if is_term(term):
                self.assertEqual(model.value(term), self.plain(term, names, calls))
            atom = chance_atom(chance, ["same", "most", "in", "bit"], 3)
            worths = [self.plain(inner, names, calls) for inner in inner_of(atom)]
            if is_saying(atom):
                self.assertIs(model.holds(atom), self.plain_holds(atom, worths))

    def pools(self):
        return {"thing": [O], "num": [X, Y, ("number", 1)], "tree": [T], "set": [S, ("none",)],
                "bits": [B, ("bits", 9)]}

    def plain_holds(self, atom, worths):
        if atom[0] == "same":
            return worths[0] == worths[1]
        if atom[0] == "most":
            return Fraction(*worths[0]) <= Fraction(*worths[1])
        return worths[0] in worths[1] if atom[0] == "in" else f"{worths[0]:04b}"[3 - atom[1]] == "1"

    def plain(self, term, names, calls):
        word = term[0]
        worths = [self.plain(inner, names, calls) for inner in inner_of(term)]
        if word == "name":
            return ({row[:2]: row[2] for row in names}).get(term[1:], PLAIN[term[2]])
        if word == "call":
            pairs = tuple((sort_of(inner), worth) for inner, worth in zip(term[2], worths))
            return ({row[:3]: row[3] for row in calls}).get((term[1], pairs, term[3]), PLAIN[term[3]])
        if word in ("number", "plus", "times"):
            number = term[1] if word == "number" else term[1] * Fraction(*worths[0]) if word == "times" else sum(
                Fraction(*worth) for worth in worths)
            return (Fraction(number).numerator, Fraction(number).denominator)
        if word in ("tip", "node"):
            return (word, *worths)
        if word in ("bits", "band", "bor", "badd", "bnot"):
            return {"bits": lambda: term[1], "band": lambda: worths[0] & worths[1],
                    "bor": lambda: worths[0] | worths[1],
                    "badd": lambda: (worths[0] + worths[1]) % 16, "bnot": lambda: 15 - worths[0]}[word]()
        sets = [set(worth) for worth in worths]
        found = {"none": lambda: set(), "one": lambda: {worths[0]}, "union": lambda: sets[0] | sets[1],
                 "both": lambda: sets[0] & sets[1], "without": lambda: sets[0] - sets[1]}[word]()
        return tuple(sorted(found, key=lambda pair: Fraction(*pair)))

    def test_value_and_holds_refused(self):
        model = Model()
        for thing in wrong_things() + [P, chain_of(7), num_of(41), list(X)]:
            self.refused("term", model.value, thing)
        for thing in wrong_things() + [X, nots(12, P), list(P)]:
            self.refused("saying", model.holds, thing)

    def test_with_name(self):
        row = ("f", (("num", (1, 1)),), "num", (2, 1))
        model = Model([("x", "num", (1, 1)), ("z", "bits", 3)], calls=[row], props=["p"])
        other = model.with_name("y", "num", (5, 1))
        self.assertEqual(other.names(), (("x", "num", (1, 1)), ("y", "num", (5, 1)), ("z", "bits", 3)))
        self.assertEqual((other.calls(), other.props()), (model.calls(), model.props()))
        self.assertEqual(model.names(), (("x", "num", (1, 1)), ("z", "bits", 3)))
        self.assertEqual(model.with_name("x", "num", (2, 1)).names(), (("x", "num", (2, 1)), ("z", "bits", 3)))
        self.assertEqual(model.with_name("x", "set", ((2, 1),)).names(), (("x", "set", ((2, 1),)), ("z", "bits", 3)))
        self.assertEqual(model.with_name("x", "num", (1, 1)), model)
        self.assertEqual(model.with_name("a", "tree", tree_of(40)).value(("name", "a", "tree")), tree_of(40))
        self.assertEqual(other.value(Y), (5, 1))
        self.assertEqual(model.value(Y), (0, 1))
        self.assertIsInstance(other, Model)

    def test_with_name_refused(self):
        model = Model([("x", "num", (1, 1))])
        for thing in wrong_things() + wrong_values():
            if not (type(thing) is str and thing in ("x", "and")):
                self.refused("name", model.with_name, thing, "num", (1, 1))
            self.refused("sort", model.with_name, "x", thing, (1, 1))
            self.refused("value", model.with_name, "x", "num", thing)
            self.refused("value", model.with_name, "x", "tree", thing)
        self.refused("name", model.with_name, "X", "Num", None)
        self.refused("sort", model.with_name, "x", "Num", None)
        self.assertEqual(model.names(), (("x", "num", (1, 1)),))

    def test_nothing_hangs_on_what_was_handed_in(self):
        names, calls, props = [("x", "num", (1, 1))], [("f", (("num", (1, 1)),), "num", (2, 1))], ["p"]
        model = Model(names, calls=calls, props=props)
        names.clear()
        calls.append(None)
        props[0] = "q"
        self.assertEqual(model.names(), (("x", "num", (1, 1)),))
        self.assertEqual(len(model.calls()), 1)
        self.assertEqual(model.props(), ("p",))
        given = [("y", "num", (1, 1)), ("x", "num", (1, 1))]
        Model(given)
        self.assertEqual(given, [("y", "num", (1, 1)), ("x", "num", (1, 1))])


if __name__ == "__main__":
    unittest.main()
