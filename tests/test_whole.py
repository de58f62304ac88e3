"""What holds over the whole program, on drawn sayings: decided, lots, answers, a solver and a desk tell alike."""

import itertools
import random
import unittest

from allsorts.answers import answers, check_answers, follows
from allsorts.desk import Desk
from allsorts.joined import decide
from allsorts.lots import check_lot, least_lot, lot_paper
from allsorts.nopaper import check_no
from allsorts.sayings import deep_of, is_saying, size_of, terms_of, text_of
from allsorts.solver import Solver
from allsorts.terms import sort_of
from tests.drawn import Drawing
from tests.looking import look_at_yes, plain_paper
from tests.plain import SORTS


def put(thing, old, new):
    """A thing with one term put for another one, anywhere in it."""
    if thing == old:
        return new
    return tuple(put(inner, old, new) for inner in thing) if type(thing) is tuple else thing


def few(seed, count=6):
    """Drawn sayings, each of which may be asked."""
    sayings = Drawing(random.Random(seed)).sayings(count, 2, 2)
    return [saying for saying in sayings if size_of(saying) <= 20 and deep_of(saying) <= 6]


class WholeTest(unittest.TestCase):
    def test_decided_by_each(self):
        counts = {"yes": 0, "no": 0}
        for seed in range(70000, 70200):
            sayings = few(seed)
            told = decide(sayings)
            counts[told[0]] += 1
            solver, desk = Solver(), Desk()
            for at, saying in enumerate(sayings):
                if at == 2:
                    solver.push()
                    self.assertEqual(desk.say("push"), "done")
                solver.say(saying)
                self.assertEqual(desk.say("say " + text_of(saying)), "done")
            self.assertEqual((solver.ask(), desk.say("ask")), (told[0], told[0]))
            lot = least_lot(sayings)
            self.assertEqual(lot is None, told[0] == "yes")
            self.assertEqual(desk.say("least"), "nothing" if lot is None else " ".join(str(number) for number in lot))
            if told[0] == "yes":
                look_at_yes(self, sayings, told)
                self.assertEqual((solver.model(), solver.literals(), solver.paper()), (told[1], told[2], None))
                for saying in sayings:
                    self.assertEqual(desk.say("holds " + text_of(saying)), "yes")
            else:
                self.assertEqual((solver.model(), solver.literals(), solver.paper()), (None, None, told[1]))
                self.assertIs(check_no(sayings, told[1]), True)
                self.assertIs(check_lot(sayings, lot_paper(sayings)), True)
        self.assertGreater(min(counts.values()), 50)

    def test_what_follows(self):
        for seed in range(71000, 71120):
            sayings = few(seed)
            if sayings:
                rest, saying = sayings[:-1], sayings[-1]
                told = follows(rest, saying)
                self.assertEqual(told[0] == "follows", decide(rest + [("not", saying)])[0] == "no")
                rows, _ = answers(rest, [saying])
                self.assertEqual(told[0] == "follows", all(answer == (True,) for answer, _ in rows))
                # It is barred where it can't hold with them.
                barred = follows(rest, ("not", saying))[0] == "follows"
                self.assertEqual(barred, decide(sayings)[0] == "no")
                self.assertEqual(barred, (True,) not in [answer for answer, _ in rows])
                if told[0] == "follows":
                    self.assertIs(plain_paper(rest + [("not", saying)], told[1]), True)

    def test_as_many_answers_as_ways_can_hold(self):
        for seed in range(72000, 72080):
            sayings = few(seed)
            rest, asked = sayings[:-3], sayings[-3:]
            told = answers(rest, asked)
            self.assertIs(check_answers(rest, asked, told), True)
            ways = [[saying if truth else ("not", saying) for saying, truth in zip(asked, truths)]
                    for truths in itertools.product([False, True], repeat=len(asked))]
            self.assertEqual(len(told[0]), sum(decide(rest + way)[0] == "yes" for way in ways))

    def test_a_fresh_name_for_a_term(self):
        count = 0
        for seed in range(73000, 73250):
            chance = random.Random(seed)
            sayings = few(seed)
            terms = sorted({term for saying in sayings for term in terms_of(saying)}, key=text_of)
            if terms:
                term = chance.choice(terms)
                fresh = ("name", "fresh", sort_of(term))
                others = [put(saying, term, fresh) for saying in sayings] + [("same", fresh, term)]
                if all(is_saying(saying) for saying in others):
                    count += 1
                    self.assertEqual(decide(others)[0], decide(sayings)[0], [text_of(saying) for saying in sayings])
        self.assertGreater(count, 150)

    def test_a_solver_used_again_and_again(self):
        for seed in range(74000, 74030):
            chance = random.Random(seed)
            sayings = few(seed, 10)
            solver, desk = Solver(), Desk()
            for _ in range(8):
                some = chance.sample(sayings, min(4, len(sayings)))
                solver.push()
                desk.say("push")
                for saying in some:
                    solver.say(saying)
                    desk.say("say " + text_of(saying))
                told = decide(some)
                self.assertEqual((solver.ask(), desk.say("ask")), (told[0], told[0]))
                self.assertEqual(solver.model() if told[0] == "yes" else solver.paper(), told[1])
                for sort in SORTS:
                    term = ("name", "zz", sort)
                    if told[0] == "yes":
                        self.assertNotEqual(desk.say("value " + text_of(term)), "no model")
                    else:
                        self.assertEqual(desk.say("value " + text_of(term)), "no model")
                self.assertEqual(solver.pop(), some)
                desk.say("pop")


if __name__ == "__main__":
    unittest.main()
