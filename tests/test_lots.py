"""LEAST LOTS: that none can be left out, by deciding; PAPERS of them, spoilt ones, and anything."""

import inspect
import itertools
import random
import unittest

from allsorts import lots
from allsorts.errors import BadText, BadValue, NoFit, TooGreat
from allsorts.joined import decide
from allsorts.lots import check_lot, least_lot, lot_paper
from allsorts.nopaper import check_no
from allsorts.reading import read_saying
from allsorts.sayings import is_saying
from allsorts.values import Model
from tests.drawn import Drawing
from tests.samples import P, Q, X, Y, wrong_things

NOT_P = ("not", P)


def read(*texts):
    return [read_saying(text) for text in texts]


class LotsTest(unittest.TestCase):
    def looked(self, sayings):
        """A least lot, looked at, or None."""
        given = list(sayings)
        lot = least_lot(sayings)
        paper = lot_paper(sayings)
        self.assertEqual(list(sayings), given)
        if lot is None:
            self.assertIsNone(paper)
            self.assertEqual(decide(sayings)[0], "yes")
            return None
        self.assertIs(type(lot), tuple)
        self.assertTrue(all(type(number) is int and 0 <= number < len(sayings) for number in lot))
        self.assertEqual(list(lot), sorted(set(lot)))
        self.assertEqual(decide([sayings[number] for number in lot])[0], "no")
        for left in lot:
            self.assertEqual(decide([sayings[number] for number in lot if number != left])[0], "yes")
        self.assertIs(check_lot(sayings, paper), True)
        self.assertEqual((type(paper), len(paper)), (tuple, 3))
        told, no, models = paper
        self.assertIs(check_no([sayings[number] for number in told], no), True)
        self.assertEqual(len(models), len(told))
        for left, model in zip(told, models):
            self.assertIs(type(model), Model)
            self.assertTrue(all(model.holds(sayings[number]) for number in told if number != left))
        return lot

    def test_arguments_and_files(self):
        for name, wanted in (("least_lot", ["sayings"]), ("lot_paper", ["sayings"]), ("check_lot", ["sayings",
                                                                                                    "paper"])):
            function = getattr(lots, name)
            self.assertEqual(function.__module__, "allsorts.lots")
            self.assertEqual(list(inspect.signature(function).parameters), wanted)
        self.assertIsNone(least_lot(sayings=[]))
        self.assertIsNone(lot_paper(sayings=()))
        self.assertIs(check_lot(sayings=(), paper=()), False)

    def test_few(self):
        self.assertIsNone(self.looked([]))
        self.assertIsNone(self.looked([P, Q]))
        self.assertEqual(self.looked([("or", ())]), (0,))
        self.assertEqual(self.looked([Q, P, NOT_P]), (1, 2))
        self.assertEqual(self.looked([Q, ("or", ()), P]), (1,))
        self.assertEqual(self.looked(read("most(x:num,y:num)", "p?", "most(y:num,z:num)", "q?",
                                          "not(most(x:num,z:num))")), (0, 2, 4))
        self.assertEqual(self.looked(read("not(same(s:set,t:set))", "same(both(s:set,t:set),union(s:set,t:set))")), (0,
                                                                                                                     1))

    def test_said_twice(self):
        for sayings in ([P, P, NOT_P, NOT_P], [P, ("not", NOT_P), Q, NOT_P], [("or", ()), ("or", ())],
                        [("same", X, Y), ("same", Y, X), ("not", ("same", X, Y))]):
            lot = self.looked(sayings)
            self.assertEqual(len(lot), 1 if sayings[0] == ("or", ()) else 2)

    def test_drawn(self):
        counts = {}
        for seed in range(150):
            lot = self.looked(Drawing(random.Random(30000 + seed)).sayings(8, 2, 2))
            size = 0 if lot is None else len(lot)
            counts[size] = counts.get(size, 0) + 1
        self.assertGreater(min(counts[size] for size in range(4)), 0)
        for seed in range(20):
            self.looked(Drawing(random.Random(31000 + seed)).sayings(40, 2, 1))

    def test_the_same_each_time(self):
        for seed in range(40):
            sayings = Drawing(random.Random(32000 + seed)).sayings(8, 2, 2)
            self.assertEqual(least_lot(tuple(sayings)), least_lot(sayings))
            self.assertEqual(lot_paper(tuple(sayings)), lot_paper(sayings))

    def test_refused(self):
        for thing in wrong_things():
            for function in (least_lot, lot_paper, lambda sayings: check_lot(sayings, None)):
                if not (type(thing) in (list, tuple) and len(thing) == 0):
                    self.refused(function, thing)
                if not is_saying(thing):
                    self.refused(function, [P, thing])
        unfit = [("same", X, Y), ("in", X, ("name", "y", "set"))]
        for function in (least_lot, lot_paper, lambda sayings: check_lot(sayings, None)):
            with self.assertRaises(NoFit) as caught:
                function(unfit + [P] * 40)
            self.assertEqual((caught.exception.what, caught.exception.name), ("name", "y"))
        for function in (least_lot, lot_paper):
            for sayings in ([P] * 41, [P, NOT_P] * 21):
                with self.assertRaises(TooGreat):
                    function(sayings)
            function([P] * 40)

    def refused(self, function, sayings):
        with self.assertRaises(BadValue) as caught:
            function(sayings)
        self.assertEqual(caught.exception.what, "sayings")
        self.assertNotIsInstance(caught.exception, BadText)


class CheckTest(unittest.TestCase):
    SAYINGS = [Q, P, ("or", (Q, P)), NOT_P]

    def test_spoilt(self):
        lot, no, models = lot_paper(self.SAYINGS)
        self.assertEqual(lot, (1, 3))
        self.assertIs(check_lot(self.SAYINGS, (lot, no, models)), True)
        self.assertIs(check_lot(tuple(self.SAYINGS), (lot, no, models)), True)
        other = Model(props=["q"])
        for paper in (((3, 1), no, models), ((3, 1), no, models[::-1]), ((1,), no, models[:1]), ((1, 2, 3), no,
                                                                                                 models + models[:1]),
                      ((1, 1, 3), no, models[:1] + models), ((True, 3), no, models), ((1, 4), no, models),
                      ((-3, -1), no, models), ([1, 3], no, models), (lot, no[:-1], models), (lot, no[1:], models),
                      (lot, no, models[::-1]), (lot, no, models[:1]), (lot, no, models + models), (lot, no,
                                                                                                   list(models)),
                      (lot, list(no), models), (lot, no, (None, None)), (lot, no, (models[0], other)), (lot, no),
                      (lot, no, models, models), [lot, no, models], ((1.0, 3), no, models), (None, no, models),
                      (lot, None, models), (lot, no, None), ((), ((), ("rows",)), ()), ((), no, ())):
            is_so = paper == (lot, no, (models[0], other)) and other.holds(P)
            self.assertIs(check_lot(self.SAYINGS, paper), is_so)
        # With all of three sayings the model must have both others hold.
        self.assertIs(check_lot([P, NOT_P], ((0, 1), no, (Model(), Model(props=["p"])))), True)
        self.assertIs(check_lot([P, NOT_P], ((0, 1), no, (Model(props=["p"]), Model(props=["p"])))), False)

    def test_a_lot_that_is_not_least(self):
        three = [P, NOT_P, Q]
        no = decide(three)[1]
        for models in itertools.product([Model(), Model(props=["p"]), Model(props=["p", "q"])], repeat=3):
            self.assertIs(check_lot(three, ((0, 1, 2), no, models)), False)

    def test_anything(self):
        for thing in wrong_things():
            self.assertIs(check_lot(self.SAYINGS, thing), False)
            for paper in ((thing, (), ()), ((1, 3), thing, ()), ((1, 3), (), thing), ((1, 3), (), (thing, thing))):
                self.assertIs(check_lot(self.SAYINGS, paper), False)
        _, no, models = lot_paper(self.SAYINGS)
        for thing in wrong_things():
            self.assertIs(check_lot(self.SAYINGS, ((1, 3), no, (models[0], thing))), False)

    def test_however_many_sayings(self):
        sayings = [P] * 100 + [NOT_P]
        _, no, models = lot_paper([P, NOT_P])
        self.assertIs(check_lot(sayings, ((99, 100), no, models)), True)
        self.assertIs(check_lot(sayings, ((98, 99), no, models)), False)


if __name__ == "__main__":
    unittest.main()
