"""PARTS: what is one, those that are here, and what they tell when they are asked by their places."""

import inspect
import random
import unittest

from allsorts import parts
from allsorts.bits import lemmas_of_bits, look_bits
from allsorts.clauses import clause_of, turned_right
from allsorts.errors import BadText, BadValue
from allsorts.parts import is_part, part_of, parts_here
from allsorts.sets import lemmas_of_sets, look_sets
from allsorts.sums import look_sums, refute_sums
from allsorts.ties import check_torn, torn
from allsorts.trees import look_trees, refute_trees
from tests.plain import PlainTies, chance_atom, chance_lot
from tests.samples import P, X, Y, Rude, wrong_things

WORDS = ("ties", "sums", "trees", "sets", "bits")
S = ("name", "s", "set")
A = ("name", "a", "bits")


class FormTest(unittest.TestCase):
    def test_arguments_and_files(self):
        for name, wanted in (("is_part", ["thing"]), ("parts_here", []), ("part_of", ["word"])):
            function = getattr(parts, name)
            self.assertEqual(function.__module__, "allsorts.parts")
            self.assertEqual(list(inspect.signature(function).parameters), wanted)
        self.assertIs(is_part(thing=None), False)
        self.assertEqual(part_of(word="sums")[0], "sums")

    def test_what_is_one(self):
        for word in WORDS + ("a", "z", "abcdefgh", "saying", "row", "part", "apar"):
            self.assertIs(is_part((word, None, None, None)), True)
            self.assertIs(is_part((word, len, Rude(), [])), True)
        for word in ("", "say", "rows", "apart", "abcdefghi", "A", "aB", "a1", "a b", " a", "a\n", "a_", None, 1, True,
                     b"ties", ["a"], ("a",), Rude(), "x" * 10 ** 6):
            self.assertIs(is_part((word, None, None, None)), False)
        for thing in (("ties",), ("ties", 1), ("ties", 1, 1), ("ties", 1, 1, 1, 1), ["ties", 1, 1, 1], "ties", "tiesx"):
            self.assertIs(is_part(thing), False)
        for thing in wrong_things():
            if not (type(thing) is tuple and len(thing) == 4 and thing[0] in ("name", "call")):
                self.assertIs(is_part(thing), False)

    def test_those_here(self):
        here = parts_here()
        self.assertIs(type(here), tuple)
        self.assertEqual([part[0] for part in here], list(WORDS))
        for part in here:
            self.assertIs(is_part(part), True)
            self.assertIs(part_of(part[0]), part)
            self.assertIs(part_of(part[0]), part_of(part[0]))
        for again, part in zip(parts_here(), here):
            self.assertIs(again, part)

    def test_refused(self):
        for thing in wrong_things() + ["", "tie", "tiesx", "Ties", "say", "rows", "apart", b"ties", ["ties"],
                                       ("ties",)]:
            with self.assertRaises(BadValue) as caught:
                part_of(thing)
            self.assertEqual(caught.exception.what, "word")
            self.assertNotIsInstance(caught.exception, BadText)


class TellingTest(unittest.TestCase):
    def test_lemmas(self):
        chance = random.Random(41)
        for _ in range(60):
            atoms = [chance_atom(chance, ["in", "set", "bits", "bit", "most", "prop"], 2) for _ in range(3)]
            for word, wanted in (("ties", []), ("sums", []), ("trees", []), ("sets", lemmas_of_sets(atoms)),
                                 ("bits", lemmas_of_bits(atoms))):
                told = part_of(word)[1](atoms)
                self.assertEqual(told, wanted)
                self.assertIs(type(told), list)
                told.append(None)
                self.assertEqual(part_of(word)[1](tuple(atoms)), wanted)

    def test_refute(self):
        chance = random.Random(42)
        counts = dict.fromkeys(WORDS, 0)
        for _ in range(300):
            lot = chance_lot(chance, ["num", "tree", "most", "thing", "in", "bit"], 7, 1)
            for word, wanted in (("ties", torn(lot)), ("sums", refute_sums(lot)), ("trees", refute_trees(lot)),
                                 ("sets", None), ("bits", None)):
                told = part_of(word)[2](lot)
                self.assertEqual(told, wanted)
                if told is not None:
                    counts[word] += 1
                    few, cert = told
                    self.assertTrue(set(few) <= set(lot))
                    self.assertIs(part_of(word)[3](few, cert), True)
            self.assertIs(part_of("ties")[2](lot) is not None, PlainTies(lot).torn())
        self.assertTrue(all(counts[word] > 20 for word in WORDS[:3]), counts)

    def test_refute_takes_lists_in_any_order(self):
        literals = [(("same", X, Y), True), (("most", Y, X), False), (P, True), (("same", X, Y), True)]
        lot = clause_of(literals)
        for word in WORDS:
            self.assertEqual(part_of(word)[2](literals), part_of(word)[2](lot))
            self.assertEqual(part_of(word)[2](tuple(literals[::-1])), part_of(word)[2](lot))
        for word in WORDS[:3]:
            for thing in [[(P, True), (P, False)], [(("part", 0), True)], [P], None, (P, True), {}, Rude()]:
                with self.assertRaises(BadValue) as caught:
                    part_of(word)[2](thing)
                self.assertEqual(caught.exception.what, "literals")
        for word in ("sets", "bits"):
            with self.assertRaises(BadValue) as caught:
                part_of(word)[1]([None])
            self.assertEqual(caught.exception.what, "atoms")

    def test_look(self):
        lots = [((turned_right(("same", X, Y)), True), (("same", X, Y), False)), (),
                clause_of([(("in", X, ("none",)), True)]), clause_of([(("bit", 0, ("bits", 2)), True)]),
                clause_of([(("most", ("number", 1), ("number", 0)), True)])]
        looks = {"ties": check_torn, "sums": look_sums, "trees": look_trees, "sets": look_sets, "bits": look_bits}
        certs = [((1, 1),), ("none",), ("bits", 2), ("same",), ((), ("unlike", 0, 0))] + wrong_things()
        for word in WORDS:
            for lot in lots[1:]:
                for cert in certs:
                    self.assertIs(part_of(word)[3](lot, cert), looks[word](lot, cert))
            with self.assertRaises(BadValue) as caught:
                part_of(word)[3]([], None)
            self.assertEqual(caught.exception.what, "lot")
        self.assertIs(part_of("sums")[3](lots[4], ((1, 1),)), True)
        self.assertIs(part_of("sets")[3](lots[2], ("none",)), True)
        self.assertIs(part_of("bits")[3](lots[3], ("bits", 2)), True)


if __name__ == "__main__":
    unittest.main()
