"""What FOLLOWS, and ANSWERS: compared with deciding each way alone; spoilt ones, and anything."""

import inspect
import itertools
import random
import unittest

from allsorts import answers as answers_file
from allsorts.answers import answers, check_answers, follows
from allsorts.errors import BadText, BadValue, NoFit, TooGreat
from allsorts.joined import decide
from allsorts.nopaper import check_no
from allsorts.reading import read_saying
from allsorts.sayings import deep_of, is_saying, size_of
from allsorts.values import Model
from tests.drawn import Drawing
from tests.samples import P, Q, X, Y, nots, wrong_things

NOT_P = ("not", P)
R = ("prop", "r")
UNFIT = [("same", X, Y), ("in", X, ("name", "y", "set"))]


def read(*texts):
    return [read_saying(text) for text in texts]


def ways(asked, truths):
    return tuple(saying if truth else ("not", saying) for saying, truth in zip(asked, truths))


def nots_of(asked, told):
    return [("not", ("and", ways(asked, truths))) for truths in told]


class Refusing(unittest.TestCase):
    def refused(self, error, fields, function, *arguments):
        with self.assertRaises(error) as caught:
            function(*arguments)
        self.assertIs(type(caught.exception), error)
        self.assertNotIsInstance(caught.exception, BadText)
        for field, wanted in fields.items():
            self.assertEqual(getattr(caught.exception, field), wanted)


class FollowsTest(Refusing):
    def looked(self, sayings, saying):
        given = list(sayings)
        told = follows(sayings, saying)
        self.assertEqual(list(sayings), given)
        self.assertEqual((type(told), len(told)), (tuple, 2))
        if told[0] == "follows":
            self.assertIs(check_no(list(sayings) + [("not", saying)], told[1]), True)
            return True
        self.assertEqual(told[0], "against")
        self.assertIs(type(told[1]), Model)
        self.assertTrue(all(told[1].holds(one) for one in sayings))
        self.assertIs(told[1].holds(saying), False)
        return False

    def test_arguments_and_files(self):
        for name, wanted in (("follows", ["sayings", "saying"]), ("answers", ["sayings", "asked"]),
                             ("check_answers", ["sayings", "asked", "told"])):
            function = getattr(answers_file, name)
            self.assertEqual(function.__module__, "allsorts.answers")
            self.assertEqual(list(inspect.signature(function).parameters), wanted)
        self.assertEqual(follows(sayings=(), saying=("and", ()))[0], "follows")
        self.assertEqual(answers(sayings=[], asked=())[0], [((), Model())])
        self.assertIs(check_answers(sayings=[], asked=[], told=None), False)

    def test_few(self):
        for texts, wanted in ((("p?", "p?"), True), (("p?",), False), (("not(not(p?))",), False), (("and()",), True),
                              (("or()",), False), (("or()", "or()"), True), (("or()", "p?"), True),
                              (("most(x:num,y:num)", "most(y:num,x:num)", "same(f:tree(x:num),f:tree(y:num))"), True),
                              (("most(x:num,y:num)", "same(f:tree(x:num),f:tree(y:num))"), False),
                              (("same(s:set,one(3))", "in(3,s:set)"), True), (("in(3,s:set)", "same(s:set,one(3))"),
                                                                              False)):
            sayings = read(*texts)
            self.assertIs(self.looked(sayings[:-1], sayings[-1]), wanted)

    def test_drawn(self):
        counts = {True: 0, False: 0}
        for seed in range(200):
            chance = random.Random(40000 + seed)
            sayings = Drawing(chance).sayings(6, 2, 2)
            told = self.looked(sayings[:-1], sayings[-1])
            counts[told] += 1
            self.assertIs(told, decide(sayings[:-1] + [("not", sayings[-1])])[0] == "no")
            self.assertEqual(follows(tuple(sayings[:-1]), saying=sayings[-1]), follows(sayings[:-1], sayings[-1]))
        self.assertGreater(min(counts.values()), 30)

    def test_refused(self):
        for thing in wrong_things():
            if not (type(thing) in (list, tuple) and len(thing) == 0):
                self.refused(BadValue, {"what": "sayings"}, follows, thing, None)
            if not is_saying(thing):
                self.refused(BadValue, {"what": "sayings"}, follows, [thing], P)
                self.refused(BadValue, {"what": "saying"}, follows, [P], thing)
        deepest = nots(11, P)
        self.assertEqual(deep_of(deepest), 12)
        self.refused(BadValue, {"what": "saying"}, follows, [P], deepest)
        self.assertEqual(follows([P], deepest[1])[0], "follows")
        full = ("and", tuple(("and", (P,) * 6) for _ in range(6)))
        for count, is_good in ((119, True), (120, False)):
            saying = ("and", (full, full, ("and", (P,) * 6), ("and", tuple([("and", (P,) * 6)] * 2)), P, P))
            while size_of(saying) < count:
                saying = ("and", saying[1][:-1] + (("not", saying[1][-1]),))
            self.assertEqual(size_of(saying), count)
            self.assertTrue(is_saying(saying))
            if is_good:
                self.assertEqual(follows([P], saying)[0], "follows")
            else:
                self.refused(BadValue, {"what": "saying"}, follows, [P], saying)

    def test_refused_in_their_order(self):
        self.refused(BadValue, {"what": "sayings"}, follows, [None], None)
        self.refused(BadValue, {"what": "saying"}, follows, UNFIT, None)
        self.refused(NoFit, {"what": "name", "name": "y"}, follows, UNFIT + [P] * 41, P)
        self.refused(NoFit, {"what": "name", "name": "y"}, follows, UNFIT[:1] + [P] * 41, UNFIT[1])
        self.refused(NoFit, {"what": "name", "name": "y"}, follows, UNFIT[:1], UNFIT[1])
        self.refused(TooGreat, {}, follows, [P] * 41, P)
        self.refused(TooGreat, {}, follows, [P] * 40, P)
        self.assertEqual(follows([P] * 39, P)[0], "follows")


class AnswersTest(Refusing):
    def looked(self, sayings, asked):
        """All answers, looked at, each way decided alone."""
        given = (list(sayings), list(asked))
        told = answers(sayings, asked)
        self.assertEqual((list(sayings), list(asked)), given)
        self.assertEqual((type(told), len(told), type(told[0])), (tuple, 2, list))
        rows, paper = told
        found = [answer for answer, _ in rows]
        wanted = [truths for truths in itertools.product([False, True], repeat=len(asked))
                  if decide(list(sayings) + list(ways(asked, truths)))[0] == "yes"]
        self.assertEqual(found, wanted)
        for row in rows:
            self.assertEqual((type(row), len(row), type(row[0]), type(row[1])), (tuple, 2, tuple, Model))
            self.assertTrue(all(row[1].holds(saying) for saying in list(sayings) + list(ways(asked, row[0]))))
        self.assertIs(check_no(list(sayings) + nots_of(asked, found), paper), True)
        self.assertIs(check_answers(sayings, asked, told), True)
        return found

    def test_few(self):
        self.assertEqual(self.looked([], []), [()])
        self.assertEqual(self.looked([("or", ())], []), [])
        self.assertEqual(self.looked([("or", ())], [P]), [])
        self.assertEqual(self.looked([], [P]), [(False,), (True,)])
        self.assertEqual(self.looked([("or", (P, Q))], [P, Q]), [(False, True), (True, False), (True, True)])
        self.assertEqual(self.looked([P], [P, P, NOT_P]), [(True, True, False)])
        self.assertEqual(len(self.looked([], [P, Q, R, ("prop", "t")])), 16)
        self.assertEqual(self.looked(read("most(x:num,y:num)"), read("most(y:num,x:num)", "same(x:num,y:num)")),
                         [(False, False), (True, True)])
        self.assertEqual(self.looked(read("same(union(one(x:num),one(y:num)),one(3))"),
                                     read("same(x:num,3)", "most(y:num,2)")), [(True, False)])

    def test_drawn(self):
        counts = {}
        for seed in range(120):
            chance = random.Random(41000 + seed)
            sayings = Drawing(chance).sayings(7, 2, 2)
            asked = [saying for saying in sayings[-3:] if size_of(saying) <= 20 and deep_of(saying) <= 6]
            found = self.looked(sayings[:-3], asked)
            counts[len(found)] = counts.get(len(found), 0) + 1
            self.assertEqual(answers(tuple(sayings[:-3]), tuple(asked)), answers(sayings[:-3], asked))
        self.assertGreater(len(counts), 4)

    def test_what_is_told_is_the_askers_own(self):
        told = answers([], [P])
        wanted = (list(told[0]), told[1])
        told[0].clear()
        self.assertEqual(answers([], [P]), wanted)

    def test_bounds(self):
        deep = nots(5, P)
        wide = ("and", (("and", (P, Q, P, Q, P, Q)), ("or", (P, Q, R, P, Q, R)), P, P, P, P))
        while size_of(wide) > 20:
            wide = ("and", wide[1][:-1])
        self.assertEqual((deep_of(deep), size_of(wide)), (6, 19))
        widest = ("not", wide)
        self.assertEqual(size_of(widest), 20)
        self.looked([], [deep, widest])
        self.looked([], [deep] * 4)
        self.looked([P] * 20, [P])
        for asked in ([P] * 5, [nots(6, P)], [P, nots(2, wide)], [("and", wide[1] + (P,))][:1] * 5):
            self.refused(BadValue, {"what": "asked"}, answers, [P], asked)
            self.refused(BadValue, {"what": "asked"}, check_answers, [P], asked, None)
        self.refused(TooGreat, {}, answers, [P] * 21, [P])
        names = [("name", one + other, "num") for one in "abc" for other in "abcdefghijklmnopqrst"]
        chain = [("and", tuple(("most", names[at], names[at + 1]) for at in range(first, min(first + 6, 59))))
                 for first in range(0, 59, 6)]
        self.looked(chain, [("most", names[3], names[1])])
        self.refused(TooGreat, {}, answers, chain, [("most", names[3], X)])

    def test_refused(self):
        for thing in wrong_things():
            if not (type(thing) in (list, tuple) and len(thing) == 0):
                for function in (answers, lambda *both: check_answers(*both, None)):
                    self.refused(BadValue, {"what": "sayings"}, function, thing, None)
                    self.refused(BadValue, {"what": "asked"}, function, [P], thing)
            if not is_saying(thing):
                for function in (answers, lambda *both: check_answers(*both, None)):
                    self.refused(BadValue, {"what": "sayings"}, function, [thing], [thing])
                    self.refused(BadValue, {"what": "asked"}, function, [], (P, thing))
        for function in (answers, lambda *both: check_answers(*both, None)):
            self.refused(BadValue, {"what": "sayings"}, function, None, None)
            self.refused(BadValue, {"what": "asked"}, function, UNFIT + [P] * 41, None)
            self.refused(NoFit, {"what": "name", "name": "y"}, function, UNFIT + [P] * 41, [])
            self.refused(NoFit, {"what": "name", "name": "y"}, function, UNFIT[:1] + [P] * 41, [P, UNFIT[1]])


class CheckTest(unittest.TestCase):
    SAYINGS = [("or", (P, Q))]
    ASKED = [P, Q]

    def test_spoilt(self):
        rows, paper = answers(self.SAYINGS, self.ASKED)
        good = lambda told: check_answers(self.SAYINGS, self.ASKED, told)
        self.assertIs(good((rows, paper)), True)
        self.assertIs(check_answers(tuple(self.SAYINGS), tuple(self.ASKED), (rows, paper)), True)
        for told in ((rows[1:], paper), (rows[:-1], paper), (rows[::-1], paper), (rows + rows, paper), ([], paper),
                     (rows + rows[-1:], paper), (tuple(rows), paper), ([list(row) for row in rows], paper),
                     ([(list(row[0]), row[1]) for row in rows], paper), ([(row[0], rows[0][1]) for row in rows], paper),
                     ([row + row for row in rows], paper), ([row[:1] for row in rows], paper), ([None] * 3, paper),
                     ([(tuple(int(truth) for truth in row[0]), row[1]) for row in rows], paper),
                     ([(row[0][:1], row[1]) for row in rows], paper), ([(row[0] + row[0], row[1]) for row in rows],
                                                                       paper),
                     ([(row[0], None) for row in rows], paper), (rows, paper[:-1]), (rows, list(paper)), (rows, ()),
                     (rows, None), [rows, paper], (rows, paper, paper), (rows,), None,
                     ([((False, False), Model())] + rows, paper)):
            self.assertIs(good(told), False)
        self.assertIs(check_answers(self.SAYINGS, self.ASKED[::-1], (rows, paper)), False)
        self.assertIs(check_answers([], self.ASKED, (rows, paper)), False)
        # Any models by which it is so will do.
        self.assertIs(good(([(answer, Model([("x", "num", (1, 2))], props=[prop for prop, truth in zip("pq", answer)
                                                                         if truth])) for answer, _ in rows], paper)),
                                                                         True)

    def test_anything(self):
        rows, paper = answers(self.SAYINGS, self.ASKED)
        for thing in wrong_things():
            for told in (thing, (thing, paper), (rows, thing), ([thing], paper), ([(thing, rows[0][1])] + rows[1:],
                                                                                  paper),
                         ([(rows[0][0], thing)] + rows[1:], paper), ([((thing, True), rows[0][1])], paper)):
                self.assertIs(check_answers(self.SAYINGS, self.ASKED, told), False)

    def test_never_too_great(self):
        rows, paper = answers([P], [Q])
        sayings = [P] * 100
        told = check_answers(sayings, [Q], (rows, paper))
        self.assertIs(told, check_no(sayings + nots_of([Q], [(False,), (True,)]), paper))
        self.assertIs(told, True)
        self.assertIs(check_answers(sayings, [Q], (rows[:1], paper)), False)


if __name__ == "__main__":
    unittest.main()
