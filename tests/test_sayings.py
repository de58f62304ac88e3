"""Sayings: what is one of anything, what stands in it, texts, depth, size, and whether some fit."""

import inspect
import itertools
import unittest

from allsorts import sayings
from allsorts.errors import BadText, BadValue, NoFit
from allsorts.sayings import atoms_of, deep_of, fit, is_atom, is_saying, size_of, terms_of, text_of
from allsorts.terms import is_term
from tests.samples import ATOMS, SAYING_WORDS, SAYINGS, TERMS, P, Q, X, Y, chain_of, nots, num_of, wrong_things

O = ("name", "o", "thing")
T = ("name", "t", "tree")
S = ("name", "s", "set")
B = ("name", "b", "bits")
OF_SORT = {"thing": O, "num": X, "tree": T, "set": S, "bits": B}


def same_of(one, other):
    """An atom of so many parts in its terms."""
    return ("same", num_of(one), num_of(other))


class InterfaceTest(unittest.TestCase):
    def test_arguments_and_files(self):
        for name, argument in (("is_atom", "thing"), ("is_saying", "thing"), ("atoms_of", "saying"),
                               ("terms_of", "saying"), ("text_of", "thing"), ("deep_of", "thing"),
                               ("size_of", "thing"), ("fit", "sayings")):
            function = getattr(sayings, name)
            self.assertEqual(function.__module__, "allsorts.sayings")
            self.assertEqual(list(inspect.signature(function).parameters), [argument])

    def test_arguments_by_name(self):
        self.assertIs(is_atom(thing=P), True)
        self.assertIs(is_saying(thing=P), True)
        self.assertEqual(atoms_of(saying=P), [P])
        self.assertEqual(terms_of(saying=P), [])
        self.assertEqual(text_of(thing=P), "p?")
        self.assertEqual(deep_of(thing=P), 1)
        self.assertEqual(size_of(thing=P), 1)
        self.assertIsNone(fit(sayings=[P]))


class AtomTest(unittest.TestCase):
    def test_each_word(self):
        self.assertEqual({row[0][0] for row in ATOMS + SAYINGS}, set(SAYING_WORDS))
        for atom, text, _, _ in ATOMS:
            self.assertIs(is_atom(atom), True, text)
            self.assertIs(is_saying(atom), True, text)

    def test_sayings_that_are_no_atoms(self):
        for saying, text, _, _ in SAYINGS:
            self.assertIs(is_atom(saying), False, text)
            self.assertIs(is_saying(saying), True, text)

    def test_terms_are_neither(self):
        for row in TERMS:
            self.assertIs(is_atom(row[0]), False, row[2])
            self.assertIs(is_saying(row[0]), False, row[2])

    def test_names_of_props(self):
        for name in ("a", "abcdef", "and", "p"):
            self.assertIs(is_atom(("prop", name)), True, name)
        for name in ("", "abcdefg", "P", "p?", "p1", None, 1, True, ("p",), X):
            self.assertIs(is_atom(("prop", name)), False, name)

    def test_same_is_of_two_of_one_sort(self):
        for one, first in OF_SORT.items():
            for other, second in OF_SORT.items():
                self.assertIs(is_atom(("same", first, second)), one == other, (one, other))
        self.assertIs(is_atom(("same", ("tip", X), T)), True)
        self.assertIs(is_atom(("same", X, ("tip", X))), False)

    def test_the_sorts_of_most_in_bit(self):
        for one, first in OF_SORT.items():
            for other, second in OF_SORT.items():
                self.assertIs(is_atom(("most", first, second)), (one, other) == ("num", "num"))
                self.assertIs(is_atom(("in", first, second)), (one, other) == ("num", "set"))
            self.assertIs(is_atom(("bit", 0, first)), one == "bits")

    def test_the_number_of_a_bit(self):
        for number in range(4):
            self.assertIs(is_atom(("bit", number, B)), True, number)
        for number in (4, -1, 10 ** 900, True, False, None, "0", 0.0, B):
            self.assertIs(is_atom(("bit", number, B)), False, number)

    def test_neither_more_nor_less_behind_a_word(self):
        for atom, text, _, _ in ATOMS + SAYINGS:
            self.assertIs(is_saying(atom[:-1]), False, text)
            self.assertIs(is_saying(atom + (atom[-1],)), False, text)
            self.assertIs(is_saying(list(atom)), False, text)
            self.assertIs(is_saying((atom,)), False, text)
            self.assertIs(is_saying([atom]), False, text)

    def test_what_is_no_term_within(self):
        for thing in (None, True, 1, "x:num", (), P, list(X), ("number", True), chain_of(7), num_of(41)):
            for atom in (("same", X, thing), ("same", thing, X), ("same", thing, thing), ("most", X, thing),
                         ("most", thing, X), ("in", thing, S), ("in", X, thing), ("bit", 0, thing)):
                self.assertIs(is_atom(atom), False)
                self.assertIs(is_saying(("not", atom)), False)

    def test_terms_of_six_deep_and_forty_parts(self):
        self.assertIs(is_atom(("most", chain_of(6), chain_of(6))), True)
        self.assertIs(is_atom(("most", chain_of(7), X)), False)
        self.assertIs(is_atom(("most", X, chain_of(7))), False)
        self.assertIs(is_atom(same_of(40, 40)), True)
        self.assertIs(is_atom(same_of(41, 1)), False)
        self.assertIs(is_atom(same_of(1, 41)), False)

    def test_of_anything(self):
        for thing in wrong_things():
            self.assertIs(is_atom(thing), False)
            self.assertIs(is_saying(thing), False)


class SayingTest(unittest.TestCase):
    def test_none_to_six_within_and_or(self):
        for word in ("and", "or"):
            for count in range(9):
                self.assertIs(is_saying((word, (P,) * count)), count <= 6, count)
            for within in ([], [P], P, None, "", {}, (P, None), (X,), ((P,),), (P, []), (P, True)):
                self.assertIs(is_saying((word, within)), False, within)
            self.assertIs(is_saying((word, P, Q)), False)

    def test_not_has_one(self):
        for thing in (None, True, (), (P,), [P], X, "p?", ("number", 1)):
            self.assertIs(is_saying(("not", thing)), False, thing)

    def test_other_words_are_none(self):
        for word in ("part", "xor", "Not", "not ", "", "if", "say"):
            for behind in ((), (P,), (P, P), ((P,),), (0,)):
                self.assertIs(is_saying((word,) + behind), False, word)

    def test_at_most_twelve_deep(self):
        self.assertIs(is_saying(nots(11, P)), True)
        self.assertIs(is_saying(nots(12, P)), False)
        self.assertIs(is_saying(nots(40, P)), False)
        deep = ("most", X, chain_of(6))
        self.assertIs(is_saying(nots(5, deep)), True)
        self.assertIs(is_saying(nots(6, deep)), False)
        self.assertIs(is_saying(nots(11, ("and", ()))), True)
        self.assertIs(is_saying(nots(12, ("or", ()))), False)
        wide = P
        for _ in range(11):
            wide = ("or", (P, wide))
        self.assertIs(is_saying(wide), True)
        self.assertIs(is_saying(("or", (P, wide))), False)

    def test_at_most_a_hundred_and_twenty_parts(self):
        # Of parts: 1 + 81 + 1 + 2 * 18 and the props.
        base = (same_of(40, 40), same_of(18, 18))
        self.assertIs(is_saying(("and", base)), True)
        self.assertIs(is_saying(("and", base + (P,))), True)
        self.assertIs(is_saying(("and", (P,) + base)), True)
        self.assertIs(is_saying(("and", base + (P, P))), False)
        self.assertIs(is_saying(("and", (P, P) + base)), False)
        self.assertIs(is_saying(("not", ("and", base + (P,)))), False)
        self.assertIs(is_saying(("and", (same_of(40, 40), same_of(18, 19), P))), False)
        self.assertIs(is_saying(("and", (same_of(40, 40), same_of(40, 40)))), False)
        self.assertEqual(size_of(("and", base + (P,))), 120)

    def test_parts_count_as_often_as_they_stand_there(self):
        inner = ("or", (P,) * 6)
        self.assertIs(is_saying(("and", (inner,) * 6)), True)
        middle = ("and", (inner,) * 6)
        self.assertEqual(size_of(("and", (middle, middle))), 87)
        self.assertIs(is_saying(("and", (middle,) * 3)), False)


class WithinTest(unittest.TestCase):
    def test_atoms_each_once_sorted_by_texts(self):
        saying = ("or", (Q, ("not", ("and", (P, ("most", X, Y), Q))), ("most", X, Y), ("same", Y, X)))
        self.assertEqual(atoms_of(saying), [("most", X, Y), P, Q, ("same", Y, X)])
        self.assertEqual(atoms_of(("and", ())), [])
        self.assertEqual(atoms_of(nots(11, P)), [P])
        # Not by the words, but by the texts: "bit(..", "p?", "same(..".
        self.assertEqual(atoms_of(("and", (P, ("same", X, X), ("bit", 0, B)))), [("bit", 0, B), P, ("same", X, X)])

    def test_an_atom_is_not_turned(self):
        self.assertEqual(atoms_of(("and", (("same", Y, X), ("same", X, Y)))), [("same", X, Y), ("same", Y, X)])

    def test_an_atoms_own(self):
        for atom, text, _, _ in ATOMS:
            self.assertEqual(atoms_of(atom), [atom], text)

    def test_terms_each_once_sorted_by_texts(self):
        sum_of = ("plus", X, ("number", 3))
        saying = ("and", (("most", sum_of, Y), ("not", ("in", X, ("one", sum_of))), P))
        self.assertEqual(terms_of(saying), [("number", 3), ("one", sum_of), sum_of, X, Y])
        self.assertEqual(terms_of(P), [])
        self.assertEqual(terms_of(("or", ())), [])
        self.assertEqual(terms_of(("bit", 3, ("bnot", B))), [B, ("bnot", B)])
        self.assertEqual(terms_of(("same", X, X)), [X])

    def test_calls_and_names_called_alike(self):
        call = ("call", "x", (X,), "num")
        self.assertEqual(terms_of(("and", (("same", call, X), ("prop", "x")))), [X, call])
        self.assertEqual(atoms_of(("and", (("same", call, X), ("prop", "x")))), [("same", call, X), ("prop", "x")])

    def test_refused(self):
        for function in (atoms_of, terms_of):
            for thing in wrong_things() + [X, nots(12, P), list(P)]:
                with self.assertRaises(BadValue) as caught:
                    function(thing)
                self.assertEqual(caught.exception.what, "saying")
                self.assertNotIsInstance(caught.exception, BadText)

    def test_what_is_told_is_the_askers_own(self):
        saying = ("and", (P, ("most", X, Y)))
        for function, wanted in ((atoms_of, [("most", X, Y), P]), (terms_of, [X, Y])):
            told = function(saying)
            self.assertIs(type(told), list)
            told.clear()
            function(saying).append(None)
            function(saying).reverse()
            self.assertEqual(function(saying), wanted)


class TextDeepSizeTest(unittest.TestCase):
    def test_of_each_word(self):
        rows = [(row[0],) + row[2:] for row in TERMS] + list(ATOMS + SAYINGS)
        for thing, text, deep, size in rows:
            self.assertEqual(text_of(thing), text)
            self.assertEqual(deep_of(thing), deep, text)
            self.assertEqual(size_of(thing), size, text)

    def test_the_texts_of_the_document(self):
        call = ("call", "f", (X, ("number", 3)), "num")
        self.assertEqual(text_of(X), "x:num")
        self.assertEqual(text_of(call), "f:num(x:num,3)")
        self.assertEqual(text_of(("times", -2, X)), "times(-2,x:num)")
        self.assertEqual(text_of(("none",)), "none()")
        self.assertEqual(text_of(("bit", 0, ("bits", 7))), "bit(0,#7)")
        self.assertEqual(text_of(("and", (P, ("not", ("most", X, ("number", 3)))))), "and(p?,not(most(x:num,3)))")

    def test_unlike_things_have_unlike_texts(self):
        names = [("name", name, sort) for name in ("x", "none", "set") for sort in ("num", "set", "bits")]
        terms = names + [("number", 1), ("number", -1), ("bits", 1), ("none",)]
        terms += [("call", "f", pair, sort) for pair in itertools.product(terms, terms) for sort in ("num", "set")]
        terms += [("call", "f", (one,), "num") for one in terms]
        for word in ("plus", "union", "both", "without", "band", "bor", "badd"):
            terms += [(word, one, other) for one, other in itertools.product(terms[:13], terms[:13])]
        good = [term for term in terms if is_term(term)]
        self.assertGreater(len(good), 700)
        self.assertEqual(len({text_of(term) for term in good}), len(set(good)))

    def test_at_the_bounds(self):
        for deep in range(1, 7):
            self.assertEqual((deep_of(chain_of(deep)), size_of(chain_of(deep))), (deep, deep))
        for size in range(1, 41):
            self.assertEqual(size_of(num_of(size)), size)
        self.assertEqual(deep_of(num_of(40)), 6)
        for count in range(12):
            self.assertEqual((deep_of(nots(count, P)), size_of(nots(count, P))), (count + 1, count + 1))
        self.assertEqual(deep_of(nots(5, ("most", X, chain_of(6)))), 12)
        self.assertEqual(size_of(same_of(40, 40)), 81)
        self.assertEqual(text_of(nots(11, P)), "not(" * 11 + "p?" + ")" * 11)

    def test_refused(self):
        beyond = [chain_of(7), num_of(41), nots(12, P), ("and", (P,) * 7), ("number", 10 ** 6 + 1), ("bits", 16)]
        for function in (text_of, deep_of, size_of):
            for thing in wrong_things() + beyond:
                with self.assertRaises(BadValue) as caught:
                    function(thing)
                self.assertEqual(caught.exception.what, "thing")
                self.assertNotIsInstance(caught.exception, BadText)


class FitTest(unittest.TestCase):
    def refused(self, sayings_, what, name):
        for given in (list(sayings_), tuple(sayings_)):
            with self.assertRaises(NoFit) as caught:
                fit(given)
            self.assertEqual((caught.exception.what, caught.exception.name), (what, name))

    def call(self, name, *inner, sort="num"):
        return ("call", name, inner, sort)

    def test_none_where_they_fit(self):
        self.assertIsNone(fit([]))
        self.assertIsNone(fit(()))
        self.assertIsNone(fit([P, P, ("most", X, Y), ("most", Y, X)]))
        self.assertIsNone(fit((("same", self.call("f", X), self.call("f", Y)), ("most", self.call("f", X), X))))
        for row in ATOMS + SAYINGS:
            self.assertIsNone(fit([row[0]]))
        self.assertIsNone(fit([P] * 1000))

    def test_names_calls_and_props_may_be_called_alike(self):
        self.assertIsNone(fit([("prop", "x"), ("same", S, ("one", self.call("x", ("name", "x", "tree"))))]))

    def test_each_name_has_one_sort(self):
        self.refused([("most", X, Y), ("same", ("name", "x", "set"), S)], "name", "x")
        self.refused([("in", X, ("name", "x", "set"))], "name", "x")
        self.refused([P, ("not", ("and", (("most", X, X), ("or", (("bit", 1, ("name", "x", "bits")),)))))], "name", "x")

    def test_each_call_has_one_count_of_terms(self):
        self.refused([("most", self.call("f", X), self.call("f", X, X))], "call", "f")
        self.refused([("most", self.call("f", X, X), X), ("most", self.call("f", X), X)], "call", "f")
        self.refused([("most", self.call("f", X, X), X), ("most", self.call("f", X, X, X), X)], "call", "f")

    def test_each_call_has_one_sort_of_each_of_its_terms(self):
        self.refused([("most", self.call("f", X, S), self.call("f", S, X))], "call", "f")
        self.refused([("most", self.call("f", X, X, X), self.call("f", X, X, B))], "call", "f")

    def test_each_call_has_one_sort(self):
        self.refused([("in", self.call("f", X), self.call("f", X, sort="set"))], "call", "f")
        self.refused([("most", self.call("f", self.call("f", X), X), X)], "call", "f")

    def test_the_sort_of_a_term_within_is_that_of_its_word(self):
        self.assertIsNone(fit([("most", self.call("f", ("plus", X, X)), self.call("f", self.call("f", X)))]))
        self.refused([("most", self.call("f", ("plus", X, X)), self.call("f", ("none",)))], "call", "f")

    def test_the_first_one_is_told(self):
        bad_y = ("in", Y, ("name", "y", "set"))
        bad_x = ("in", X, ("name", "x", "set"))
        self.refused([bad_y, bad_x], "name", "y")
        self.refused([bad_x, bad_y], "name", "x")
        self.refused([("or", (P, bad_y)), bad_x], "name", "y")
        # Gone through from the first on, y is the first with which they don't fit, though x comes ahead of it.
        self.refused([("most", X, Y), ("in", ("number", 1), ("name", "y", "set")), bad_x], "name", "y")

    def test_what_stands_in_front_is_ahead(self):
        first = ("most", self.call("f", X), Y)
        self.refused([first, ("most", self.call("f", ("name", "x", "set")), Y)], "call", "f")
        self.refused([first, ("most", self.call("f", ("one", ("number", 1)), ("name", "x", "set")), Y)], "call", "f")
        self.refused([first, ("in", self.call("g", ("name", "x", "set")), self.call("f", X, sort="set"))], "name", "x")
        self.refused([first, ("same", ("name", "x", "set"), self.call("f", X, sort="set"))], "name", "x")
        self.refused([first, ("same", self.call("f", X, sort="set"), ("name", "x", "set"))], "call", "f")

    def test_bad_value_is_due_ahead_of_no_fit(self):
        bad = ("in", X, ("name", "x", "set"))
        for given in ([bad, None], (bad, X), [bad, nots(12, P)], [bad, [P]], [bad, bad, True]):
            with self.assertRaises(BadValue) as caught:
                fit(given)
            self.assertEqual(caught.exception.what, "sayings")

    def test_refused_of_anything(self):
        things = [thing for thing in wrong_things() if not (type(thing) in (list, tuple) and len(thing) == 0)]
        inner = [[thing] for thing in wrong_things()] + [(P, thing) for thing in wrong_things()]
        more = [P, X, {P: P}, {P}, iter([P]), (one for one in [P]), "p?", [X], [[P]], (P, X), [P, None], ((P,),)]
        for thing in things + inner + more:
            with self.assertRaises(BadValue) as caught:
                fit(thing)
            self.assertEqual(caught.exception.what, "sayings")
            self.assertNotIsInstance(caught.exception, BadText)

    def test_nothing_handed_in_is_changed(self):
        given = [P, ("most", X, Y), P]
        fit(given)
        self.assertEqual(given, [P, ("most", X, Y), P])
        bad = [("in", X, ("name", "x", "set")), P]
        with self.assertRaises(NoFit):
            fit(bad)
        self.assertEqual(bad, [("in", X, ("name", "x", "set")), P])

    def test_what_was_refused_changes_nothing(self):
        with self.assertRaises(NoFit):
            fit([("in", X, ("name", "x", "set"))])
        self.assertIsNone(fit([("same", ("name", "x", "set"), S)]))
        self.assertIsNone(fit([("most", X, Y)]))


if __name__ == "__main__":
    unittest.main()
