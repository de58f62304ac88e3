"""PAPERS: check_no compared with a plain looker, on papers that come out, on spoilt ones, and on anything."""

import inspect
import itertools
import random
import unittest

from allsorts.clauses import clause_of, clauses_of, opposed, turned_right
from allsorts.errors import BadText, BadValue, NoFit
from allsorts.joined import decide
from allsorts.nopaper import check_no
from allsorts.reading import read_saying
from allsorts.sayings import is_saying
from tests.drawn import Drawing
from tests.looking import plain_paper
from tests.papers import spoilt
from tests.samples import P, Q, X, Y, Rude, nots, wrong_things

S = ("name", "s", "set")
T = ("name", "t", "set")
F_OF_N = ("call", "f", (("name", "n", "num"),), "set")
SAY = ("say",)
ROWS = ("rows",)
END = ((), ROWS)
NOT_P = ("not", P)
PAPER = ((((P, True),), SAY), (((P, False),), SAY), END)


def part(word, look):
    return (word, lambda atoms: [], lambda literals: None, look)


def within(name, where, truth):
    return (("in", ("name", name, "num"), where), truth)


def apart(name, one, other, truth):
    """A row of the number apart of that NAME."""
    same = (turned_right(("same", one, other)), True)
    return (clause_of([same, within(name, one, truth), within(name, other, truth)]), ("apart", name))


class FormTest(unittest.TestCase):
    def test_arguments_and_files(self):
        self.assertEqual(check_no.__module__, "allsorts.nopaper")
        parameters = inspect.signature(check_no).parameters
        self.assertEqual(list(parameters), ["sayings", "paper", "more"])
        self.assertIs(parameters["more"].kind, inspect.Parameter.KEYWORD_ONLY)
        self.assertIs(check_no(sayings=[P, NOT_P], paper=PAPER), True)
        self.assertIs(check_no((P, NOT_P), PAPER, more=[]), True)

    def test_anything(self):
        for thing in wrong_things() + [[], (), None, True, list(PAPER), PAPER[:2], PAPER + (None,), (END,), (None,),
                                       ((),), (((), ("say",)),), (((), ()),), (((), ROWS, 1),), ([(), ROWS],),
                                       (((), ["rows"]),), (([], ROWS),), (((), ("rows", 1)),), (((), "rows"),)]:
            for sayings in ([], [P], [P, NOT_P]):
                self.assertIs(check_no(sayings, thing), False)
        for thing in wrong_things():
            for row in ((thing, ROWS), ((), thing), ((), ("rows", thing)), ((), ("sets", thing)), (thing, thing),
                        (((P, True),), ("ties", thing)), (((P, True),), ("apart", thing)), ((), (thing,)),
                        ((), (thing, thing)), (((P, True),), (thing, 1)), thing):
                self.assertIs(check_no([P, NOT_P], (row, END)), False)

    def test_refused_in_their_order(self):
        for thing in wrong_things():
            if not (type(thing) in (list, tuple) and len(thing) == 0):
                self.refused("sayings", thing, PAPER, ())
                self.refused("more", [], PAPER, thing)
            if not is_saying(thing):
                self.refused("sayings", [P, thing], None, None)
        unfit = [("same", X, Y), ("in", X, ("name", "y", "set"))]
        with self.assertRaises(NoFit) as caught:
            check_no(unfit, PAPER, more=None)
        self.assertEqual((caught.exception.what, caught.exception.name), ("name", "y"))
        for more in ([part("ties", None)], [part("a", None), part("a", None)], [part("say", None)], [None], part("a",
                                                                                                                 len)):
            self.refused("more", [P], PAPER, more)

    def refused(self, what, sayings, paper, more):
        with self.assertRaises(BadValue) as caught:
            check_no(sayings, paper, more=more)
        self.assertEqual(caught.exception.what, what)
        self.assertNotIsInstance(caught.exception, BadText)

    def test_however_many_sayings(self):
        sayings = [("same", ("name", "x" + one + other, "num"), ("number", at)) for at, (one, other)
                   in enumerate(itertools.product("abcdefghij", repeat=2))]
        row = ((("same", ("number", 7), ("name", "xah", "num")), True),)
        self.assertIs(check_no(sayings + [P, NOT_P], PAPER), True)
        self.assertIs(check_no(sayings + [P], PAPER), False)
        self.assertIs(check_no(sayings + [P, NOT_P], ((row, SAY),) + PAPER), True)


class RowsTest(unittest.TestCase):
    def looked(self, sayings, paper, more=()):
        wanted = plain_paper(sayings, paper, more)
        self.assertIs(check_no(sayings, paper, more=more), wanted)
        return wanted

    def test_say(self):
        sayings = [("or", (P, ("and", (Q, NOT_P)))), Q]
        for clause in clauses_of(sayings):
            self.assertIs(check_no(sayings, ((clause, SAY), END)), False)
            self.assertIs(check_no(sayings + [P, NOT_P], ((clause, SAY),) + PAPER[:2]), False)
            for other in (clause[1:], clause + clause, clause[::-1], tuple(opposed(one) for one in clause)):
                if other not in clauses_of(sayings + [P, NOT_P]):
                    self.assertIs(check_no([P, NOT_P] + sayings, ((other, SAY),) + PAPER), False)
        # The numbers of ands and ors are those of the sayings in their order.
        sayings = [("or", ()), ("and", (P,))]
        told = decide(sayings)[1]
        self.assertIs(check_no(sayings, told), True)
        self.assertIs(check_no(sayings[::-1], told), False)

    def test_rows(self):
        either = clause_of([(P, True), (Q, True)])
        sayings = [("or", (P, Q)), NOT_P]
        said = tuple((clause, SAY) for clause in clauses_of(sayings))
        self.assertIs(self.looked(sayings, said + (END,)), False)
        self.assertIs(self.looked(sayings, said + (((either, ROWS)), END)), False)
        sayings = sayings + [("not", Q)]
        said = tuple((clause, SAY) for clause in clauses_of(sayings))
        self.assertIs(self.looked(sayings, said + (END,)), True)
        self.assertIs(self.looked(sayings, said + ((either, ROWS), END)), True)
        self.assertIs(self.looked(sayings, ((either, ROWS),) + said + (END,)), False)
        # A row behind which none is needed must be right, too.
        self.assertIs(self.looked(sayings, said + (END, (((P, True),), ROWS), END)), True)
        self.assertIs(self.looked(sayings, said + (END, (((P, True),), SAY), END)), False)
        self.assertIs(self.looked(sayings, said + (END, (((P, True),), ROWS))), False)
        # What a literal and what opposes it are in holds always.
        self.assertIs(self.looked([P, NOT_P], ((((P, False), (P, True)), ROWS),) + PAPER), True)

    def test_parts(self):
        cert = ((1, 1),)
        row = (((("most", ("number", 1), ("number", 0)), False),), ("sums", cert))
        sayings = [("most", ("number", 1), ("number", 0))]
        said = (((("most", ("number", 1), ("number", 0)), True),), SAY)
        self.assertIs(self.looked(sayings, (said, row, END)), True)
        self.assertIs(self.looked(sayings, (row, said, END)), True)
        for word in ("ties", "trees", "sets", "bits", "sum", "sumsx", "say", "rows", "apart", "other"):
            self.assertIs(self.looked(sayings, (said, (row[0], (word, cert)), END)), False)
        self.assertIs(self.looked(sayings, (said, (row[0], ("sums", ((0, 1),))), END)), False)
        self.assertIs(self.looked(sayings, (said, (row[0], ("sums",)), END)), False)
        self.assertIs(self.looked(sayings, (said, (row[0], ("sums", cert, cert)), END)), False)
        # No LOT: with a part, or with two that are opposed.
        for clause in (((("part", 0), False),), ((P, False), (P, True))):
            self.assertIs(self.looked([P, NOT_P], ((clause, ("other", 1)),) + PAPER, [part("other", lambda *_: True)]),
                          False)

    def test_parts_handed_in(self):
        looked = []

        def look(lot, cert):
            looked.append((lot, cert))
            return lot == ((P, True), (Q, True)) and cert == ["c"]

        cert = ["c"]
        paper = ((((P, True),), SAY), (((Q, True),), SAY), (((P, False), (Q, False)), ("own", cert)), END)
        self.assertIs(self.looked([P, Q], paper, [part("own", look)]), True)
        self.assertIs(looked[0][1], cert)
        self.assertIs(self.looked([P, Q], paper, [part("a", look), part("own", look)]), True)
        self.assertIs(self.looked([P, Q], paper), False)
        self.assertIs(self.looked([P, Q], paper, [part("owner", look)]), False)
        for answer in (False, None, 1, "True", [True]):
            self.assertIs(self.looked([P, Q], paper, [part("own", lambda lot, cert: answer)]), False)


class ApartTest(unittest.TestCase):
    def looked(self, paper, sayings=(P, NOT_P), more=()):
        """Whether a paper with these rows in front comes out."""
        wanted = plain_paper(sayings, tuple(paper) + PAPER, more)
        self.assertIs(check_no(sayings, tuple(paper) + PAPER, more=more), wanted)
        return wanted

    def test_both_clauses(self):
        for one, other in ((S, T), (T, S), (S, ("none",)), (("union", S, T), ("union", T, S)), (S, F_OF_N)):
            for truth in (True, False):
                self.assertIs(self.looked([apart("z", one, other, truth)]), True)
                self.assertIs(self.looked([apart("abcdef", one, other, truth)]), True)
        self.assertIs(self.looked([apart("z", S, T, True), apart("z", T, S, False), apart("z", S, T, True)]), True)

    def test_other_clauses(self):
        clause = apart("z", S, T, True)[0]
        for other in (clause[1:], clause[:2], clause + ((P, True),), (), clause_of(
                [within("z", S, True), within("z", T, False), clause[-1]]), clause_of(
                    [within("z", S, True), within("y", T, True), clause[-1]]), clause_of(
                        [within("z", S, True), within("z", ("none",), True), clause[-1]]), clause_of(
                            [within("z", S, True), within("z", T, True), opposed(clause[-1])]), clause[::-1]):
            self.assertIs(self.looked([(other, ("apart", "z"))]), False)
        for why in (("apart", "y"), ("apart",), ("apart", "z", "z"), ("apart", "Z"), ("apart", "zzzzzzz"), ("apart",
                                                                                                            ""),
                    ("apart", 1), ("apart", None), ("apart", ("name", "z", "num")), ("apart", Rude())):
            self.assertIs(self.looked([(clause, why)]), False)
        number = (("same", X, Y), True)
        self.assertIs(self.looked([(clause_of([number, within("z", S, True)]), ("apart", "z"))]), False)

    def test_names_that_are_in_use(self):
        row = apart("z", S, T, True)
        for saying in (("same", ("name", "z", "num"), X), ("same", ("name", "z", "set"), S),
                       ("most", X, ("call", "f", (("plus", X, ("name", "z", "num")),), "num"))):
            self.assertIs(self.looked([row], [P, NOT_P, saying]), False)
        # Names, calls and props may be called alike.
        for saying in (("prop", "z"), ("most", X, ("call", "z", (X,), "num"))):
            self.assertIs(self.looked([row], [P, NOT_P, saying]), True)
        self.assertIs(self.looked([apart("n", S, F_OF_N, True)]), False)
        self.assertIs(self.looked([apart("s", S, T, True)]), False)
        self.assertIs(self.looked([apart("z", S, ("one", ("name", "z", "num")), True)]), False)

    def test_rows_ahead_and_behind(self):
        self.assertIs(self.looked([apart("n", S, T, True), apart("z", S, F_OF_N, True)]), True)
        self.assertIs(self.looked([apart("z", S, F_OF_N, True), apart("n", S, T, True)]), False)
        self.assertIs(self.looked([apart("n", S, T, True), apart("z", S, F_OF_N, True), apart("n", S, T, False)]), True)
        self.assertIs(self.looked([apart("z", S, T, True), apart("z", S, ("none",), True)]), False)
        self.assertIs(self.looked([apart("z", S, T, True), apart("y", S, T, True), apart("z", S, T, True)]), True)

    def test_rows_of_parts_handed_in(self):
        own = part("own", lambda lot, cert: True)
        row = (((("in", ("name", "z", "num"), S), True),), ("own", 1))
        other = (((("in", ("name", "y", "num"), S), True),), ("own", 1))
        self.assertIs(self.looked([apart("z", S, T, True), other], more=[own]), True)
        for rows in ([apart("z", S, T, True), row], [row, apart("z", S, T, True)]):
            self.assertIs(self.looked(rows, more=[own]), False)
        # Behind the empty CLAUSE, too.
        self.assertIs(check_no([P, NOT_P], (apart("z", S, T, True),) + PAPER + (row, END), more=[own]), False)
        self.assertIs(check_no([P, NOT_P], (apart("z", S, T, True),) + PAPER + (other, END), more=[own]), True)
        tied = (((("same", ("name", "z", "num"), ("name", "z", "num")), True),),
                ("ties", ((((("name", "z", "num"),) * 2) + (("itself",),),), ("unlike", 0, 0))))
        self.assertIs(self.looked([tied, apart("z", S, T, True)], more=[own]), True)


class SpoiltTest(unittest.TestCase):
    def papers(self, first, count, most):
        for seed in range(first, first + count):
            sayings = Drawing(random.Random(seed)).sayings(5, 2, 2)
            told = decide(sayings)
            if told[0] == "no" and len(told[1]) <= most:
                yield sayings, told[1]

    def test_rows_left_out_and_exchanged(self):
        counts = {True: 0, False: 0}
        for sayings, paper in self.papers(20000, 250, 60):
            self.assertIs(plain_paper(sayings, paper), True)
            for at in range(len(paper)):
                for other in (paper[:at] + paper[at + 1:], paper[:at] + (paper[at],) + paper[at:],
                              paper[:at - 1] + (paper[at], paper[at - 1]) + paper[at + 1:]):
                    wanted = plain_paper(sayings, other)
                    counts[wanted] += 1
                    self.assertIs(check_no(sayings, other), wanted)
        self.assertGreater(min(counts.values()), 300)

    def test_spoilt_in_one_place(self):
        counts = {True: 0, False: 0}
        for sayings, paper in self.papers(21000, 150, 14):
            chance = random.Random(len(paper))
            others = list(spoilt(paper))
            for other in chance.sample(others, min(60, len(others))):
                wanted = plain_paper(sayings, other)
                counts[wanted] += 1
                self.assertIs(check_no(sayings, other), wanted)
        self.assertGreater(counts[False], 1000)
        self.assertGreater(counts[True], 5)

    def test_of_other_sayings(self):
        for sayings, paper in self.papers(22000, 60, 60):
            for at in range(len(sayings)):
                fewer = sayings[:at] + sayings[at + 1:]
                self.assertIs(check_no(fewer, paper), plain_paper(fewer, paper))
            self.assertIs(check_no([nots(2, saying) for saying in sayings if is_saying(nots(2, saying))], paper),
                          plain_paper([nots(2, saying) for saying in sayings if is_saying(nots(2, saying))], paper))

    def test_what_is_handed_in_stays(self):
        sayings = [read_saying(text) for text in ("same(f:num(x:num),1)", "same(x:num,2)", "same(f:num(2),3)")]
        paper = decide(sayings)[1]
        for _ in range(3):
            self.assertIs(check_no(list(sayings), paper), True)
            self.assertIs(check_no(sayings[:2], paper), False)


if __name__ == "__main__":
    unittest.main()
