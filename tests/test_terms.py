"""Terms: what is one of anything, its sort, its parts, the terms straight in it."""

import inspect
import unittest

from allsorts import terms
from allsorts.errors import BadText, BadValue
from allsorts.terms import SORTS, inner_of, is_name, is_term, parts_of, sort_of
from tests.samples import ATOMS, SAYINGS, TERM_WORDS, TERMS, X, Y, chain_of, num_of, wrong_things

OF_SORT = {"thing": ("name", "o", "thing"), "num": X, "tree": ("name", "t", "tree"), "set": ("name", "s", "set"),
           "bits": ("name", "b", "bits")}

# The sorts of the terms that each word takes, and what stands between the word and them.
TAKES = {
    "plus": ((), ("num", "num")),
    "times": ((2,), ("num",)),
    "tip": ((), ("num",)),
    "node": ((), ("tree", "tree")),
    "one": ((), ("num",)),
    "union": ((), ("set", "set")),
    "both": ((), ("set", "set")),
    "without": ((), ("set", "set")),
    "band": ((), ("bits", "bits")),
    "bor": ((), ("bits", "bits")),
    "badd": ((), ("bits", "bits")),
    "bnot": ((), ("bits",)),
}


class InterfaceTest(unittest.TestCase):
    def test_sorts(self):
        self.assertEqual(SORTS, ("thing", "num", "tree", "set", "bits"))
        self.assertIs(type(SORTS), tuple)

    def test_arguments_and_files(self):
        for name, argument in (("is_name", "thing"), ("is_term", "thing"), ("sort_of", "term"), ("parts_of", "term"),
                               ("inner_of", "term")):
            function = getattr(terms, name)
            self.assertEqual(function.__module__, "allsorts.terms")
            self.assertEqual(list(inspect.signature(function).parameters), [argument])

    def test_arguments_by_name(self):
        self.assertIs(is_name(thing="x"), True)
        self.assertIs(is_term(thing=X), True)
        self.assertEqual(sort_of(term=X), "num")
        self.assertEqual(parts_of(term=X), [X])
        self.assertEqual(inner_of(term=X), [])


class NameTest(unittest.TestCase):
    def test_one_to_six_small_letters(self):
        for name in ("a", "z", "x", "and", "name", "abcdef", "zzzzzz", "az"):
            self.assertIs(is_name(name), True, name)

    def test_whatever_else_is_none(self):
        for name in ("", "abcdefg", "X", "xY", "x1", "1", "x_", " x", "x ", "x\n", "x-y", "`", "{", "\xe4", "\u0430",
                     "\uff41", "x\0", "abcde\u0301", b"x", ("x",), ["x"], 1, None, True, {"x": 1}):
            self.assertIs(is_name(name), False, repr(name))

    def test_of_anything(self):
        for thing in wrong_things():
            wanted = isinstance(thing, str) and thing in ("x", "and")
            self.assertIs(is_name(thing), wanted)


class TermTest(unittest.TestCase):
    def test_each_word(self):
        self.assertEqual({row[0][0] for row in TERMS}, set(TERM_WORDS))
        for term, sort, text, _, _ in TERMS:
            self.assertIs(is_term(term), True, text)
            self.assertEqual(sort_of(term), sort, text)

    def test_names_and_calls_of_each_sort(self):
        for sort in SORTS:
            self.assertEqual(sort_of(("name", "x", sort)), sort)
            self.assertEqual(sort_of(("call", "x", (X,), sort)), sort)
        for sort in ("", "number", "Num", "nums", None, 1, ("num",), ["num"], b"num", True):
            self.assertIs(is_term(("name", "x", sort)), False, sort)
            self.assertIs(is_term(("call", "x", (X,), sort)), False, sort)

    def test_names_within(self):
        for name in ("", "abcdefg", "X", "x1", None, 1, ("x",)):
            self.assertIs(is_term(("name", name, "num")), False, name)
            self.assertIs(is_term(("call", name, (X,), "num")), False, name)
        self.assertIs(is_term(("name", "abcdef", "num")), True)
        self.assertIs(is_term(("call", "abcdef", (X,), "num")), True)

    def test_a_call_has_one_to_three_terms_of_whatever_sorts(self):
        for count in range(6):
            self.assertIs(is_term(("call", "f", (X,) * count, "num")), count in (1, 2, 3), count)
        for one in OF_SORT.values():
            for other in OF_SORT.values():
                self.assertIs(is_term(("call", "f", (one, other), "tree")), True)
        for within in ([X], X, (X, None), (X, "x:num"), ((X,),), {X: X}, None, (("prop", "p"),)):
            self.assertIs(is_term(("call", "f", within, "num")), False, within)
        for short in (("call", "f", (X,)), ("call", (X,), "num"), ("call", "f", (X,), "num", "num"), ("call", "f")):
            self.assertIs(is_term(short), False, short)

    def test_numbers(self):
        for word, behind in (("number", ()), ("times", (X,))):
            for number in (0, 1, -1, 10 ** 6, -10 ** 6):
                self.assertIs(is_term((word, number) + behind), True, number)
            for number in (10 ** 6 + 1, -10 ** 6 - 1, 10 ** 900, True, False, None, "1", 1.0, (1,), X):
                self.assertIs(is_term((word, number) + behind), False, number)

    def test_bits(self):
        for number in range(16):
            self.assertIs(is_term(("bits", number)), True, number)
        for number in (16, -1, 10 ** 900, True, False, None, "1", 1.0, (1,), X):
            self.assertIs(is_term(("bits", number)), False, number)

    def test_the_sorts_that_each_word_takes(self):
        for word, (front, sorts) in TAKES.items():
            good = [OF_SORT[sort] for sort in sorts]
            self.assertIs(is_term((word, *front, *good)), True, word)
            for place, wanted in enumerate(sorts):
                for sort, term in OF_SORT.items():
                    changed = good[:place] + [term] + good[place + 1:]
                    self.assertIs(is_term((word, *front, *changed)), sort == wanted, (word, place, sort))
                for thing in (None, "x:num", 1, True, (), ("prop", "p"), list(good[place])):
                    changed = good[:place] + [thing] + good[place + 1:]
                    self.assertIs(is_term((word, *front, *changed)), False, (word, place, thing))

    def test_neither_more_nor_less_behind_a_word(self):
        for term, _, text, _, _ in TERMS:
            self.assertIs(is_term(term[:-1]), False, text)
            self.assertIs(is_term(term + (term[-1],)), False, text)
            self.assertIs(is_term(term + (X,)), False, text)
            self.assertIs(is_term(list(term)), False, text)
            self.assertIs(is_term((term,)), False, text)

    def test_other_words_are_none(self):
        for word in ("part", "minus", "Plus", "plus ", "", "prop", "same", "num", "set", "tree", "thing"):
            for behind in ((), (X,), (X, X), (1,), (1, X)):
                self.assertIs(is_term((word,) + behind), False, word)

    def test_sayings_are_none(self):
        for row in ATOMS + SAYINGS:
            self.assertIs(is_term(row[0]), False, row[1])

    def test_at_most_six_deep(self):
        for deep in range(1, 7):
            self.assertIs(is_term(chain_of(deep)), True, deep)
        for deep in (7, 8, 12, 13, 40):
            self.assertIs(is_term(chain_of(deep)), False, deep)
        for wrap in (lambda term: ("tip", term), lambda term: ("one", term), lambda term: ("plus", X, term),
                     lambda term: ("call", "f", (X, X, term), "bits")):
            self.assertIs(is_term(wrap(chain_of(5))), True)
            self.assertIs(is_term(wrap(chain_of(6))), False)

    def test_at_most_forty_parts(self):
        for size in (1, 2, 38, 39, 40):
            self.assertIs(is_term(num_of(size)), True, size)
        for size in (41, 42, 43, 60):
            self.assertIs(is_term(num_of(size)), False, size)
        for size, wanted in ((12, True), (13, True), (14, False), (15, False)):
            self.assertIs(is_term(("call", "f", (num_of(13), num_of(size), num_of(13)), "set")), wanted, size)

    def test_parts_count_as_often_as_they_stand_there(self):
        half = num_of(19)
        self.assertIs(is_term(("plus", half, half)), True)
        half = num_of(20)
        self.assertIs(is_term(("plus", half, half)), False)

    def test_of_anything(self):
        for thing in wrong_things():
            self.assertIs(is_term(thing), False)


class SortOfTest(unittest.TestCase):
    def test_refused(self):
        for function in (sort_of, parts_of, inner_of):
            for thing in wrong_things() + [("prop", "p"), chain_of(7), num_of(41), list(X)]:
                with self.assertRaises(BadValue) as caught:
                    function(thing)
                self.assertEqual(caught.exception.what, "term")
                self.assertNotIsInstance(caught.exception, BadText)


class PartsOfTest(unittest.TestCase):
    def test_each_once_sorted_by_texts(self):
        term = ("plus", ("plus", Y, X), ("plus", X, ("number", 12)))
        self.assertEqual(parts_of(term), [("number", 12), term, ("plus", X, ("number", 12)), ("plus", Y, X), X, Y])

    def test_order_is_that_of_texts(self):
        # By texts: "#2", "-1", "10", "9", "f:num(..)", "x:bits", "x:num".
        b = ("name", "x", "bits")
        inner = (("number", 10), ("number", 9), ("call", "f", (X, b, ("number", -1)), "num"))
        term = ("call", "f", inner, "num")
        self.assertEqual(parts_of(term), [("number", -1), ("number", 10), ("number", 9), term, inner[2], b, X])
        self.assertEqual(parts_of(("band", b, ("bits", 2))), [("bits", 2), ("band", b, ("bits", 2)), b])

    def test_of_each_word(self):
        for term, _, text, _, size in TERMS:
            parts = parts_of(term)
            self.assertIs(type(parts), list)
            self.assertIn(term, parts, text)
            self.assertLessEqual(len(parts), size, text)
        self.assertEqual(parts_of(("none",)), [("none",)])
        self.assertEqual(parts_of(("bor", ("bits", 3), ("bits", 3))), [("bits", 3), ("bor", ("bits", 3), ("bits", 3))])

    def test_a_name_and_a_call_called_alike(self):
        term = ("call", "x", (X, ("name", "x", "set")), "num")
        self.assertEqual(parts_of(term), [X, term, ("name", "x", "set")])

    def test_what_is_told_is_the_askers_own(self):
        term = ("plus", X, Y)
        parts_of(term).clear()
        parts_of(term).append(None)
        self.assertEqual(parts_of(term), [term, X, Y])


class InnerOfTest(unittest.TestCase):
    def test_in_order_as_often_as_there(self):
        self.assertEqual(inner_of(X), [])
        self.assertEqual(inner_of(("number", 3)), [])
        self.assertEqual(inner_of(("bits", 3)), [])
        self.assertEqual(inner_of(("none",)), [])
        self.assertEqual(inner_of(("plus", Y, X)), [Y, X])
        self.assertEqual(inner_of(("plus", X, X)), [X, X])
        self.assertEqual(inner_of(("times", 3, X)), [X])
        self.assertEqual(inner_of(("tip", X)), [X])
        self.assertEqual(inner_of(("call", "f", (Y, ("none",), X), "tree")), [Y, ("none",), X])
        self.assertEqual(inner_of(("plus", ("plus", Y, X), X)), [("plus", Y, X), X])
        for word, (front, sorts) in TAKES.items():
            places = [OF_SORT[sort] for sort in sorts]
            self.assertEqual(inner_of((word, *front, *places)), places, word)

    def test_what_is_told_is_the_askers_own(self):
        term = ("call", "f", (X, Y), "num")
        told = inner_of(term)
        self.assertIs(type(told), list)
        told.clear()
        inner_of(term).append(None)
        self.assertEqual(inner_of(term), [X, Y])


if __name__ == "__main__":
    unittest.main()
