"""A DESK led line by line, beside a solver of which is asked the same; each refusal; texts of values."""

import inspect
import random
import unittest

from allsorts.desk import Desk
from allsorts.errors import BadText, NoFit, Nothing, TooGreat
from allsorts.reading import read_saying, read_term
from allsorts.sayings import deep_of, is_saying, size_of, text_of
from allsorts.solver import Solver
from allsorts.terms import sort_of
from tests.drawn import Drawing
from tests.samples import SAYINGS, TERMS, nots, wrong_things


def plain_fraction(fraction):
    return str(fraction[0]) if fraction[1] == 1 else "/".join(map(str, fraction))


def plain_value(value, sort):
    """The text of a VALUE."""
    if sort == "num":
        return plain_fraction(value)
    if sort == "set":
        return "{" + ",".join(map(plain_fraction, value)) + "}"
    if sort == "tree" and value[0] == "tip":
        return f"tip({plain_fraction(value[1])})"
    if sort == "tree":
        return f"node({plain_value(value[1], 'tree')},{plain_value(value[2], 'tree')})"
    return str(value)


class PlainDesk:
    """Answers by a solver."""

    def __init__(self):
        self.solver = Solver()

    def say(self, line):
        solver = self.solver
        try:
            if line in ("push", "pop"):
                getattr(solver, line)()
                return "done"
            if line == "ask":
                return solver.ask()
            if line == "depth":
                return str(solver.depth())
            if line == "said":
                return " ; ".join(text_of(saying) for saying in solver.said()) or "nothing"
            if line == "least":
                lot = solver.least()
                return "nothing" if lot is None else " ".join(map(str, lot))
            word, text = line.split(" ", 1)
            thing = read_term(text) if word == "value" else read_saying(text)
            if word == "say":
                solver.say(thing)
                return "done"
            if word == "follows":
                if not is_saying(("not", thing)):
                    return "no line"
                return "yes" if solver.follows(thing)[0] == "follows" else "no"
            if solver.model() is None:
                return "no model"
            if word == "value":
                return plain_value(solver.model().value(thing), sort_of(thing))
            return "yes" if solver.model().holds(thing) else "no"
        except BadText as error:
            return f"bad text {error.place}"
        except NoFit as error:
            return f"no fit {error.what} {error.name}"
        except TooGreat:
            return "too great"
        except Nothing:
            return "nothing"


class DeskTest(unittest.TestCase):
    def led(self, *rows, desk=None):
        """Leads a desk by rows of lines and what is due."""
        desk = Desk() if desk is None else desk
        for line, wanted in rows:
            told = desk.say(line)
            self.assertIs(type(told), str)
            self.assertEqual(told, wanted, line)
        return desk

    def test_arguments_and_files(self):
        self.assertEqual(Desk.__module__, "allsorts.desk")
        self.assertEqual(list(inspect.signature(Desk).parameters), [])
        self.assertEqual(list(inspect.signature(vars(Desk)["say"]).parameters), ["self", "line"])
        self.assertEqual(Desk().say(line="ask"), "yes")

    def test_each_line(self):
        self.led(("said", "nothing"), ("depth", "1"), ("ask", "yes"), ("least", "nothing"), ("say p?", "done"),
                 ("push", "done"), ("depth", "2"), ("say not(p?)", "done"), ("said", "p? ; not(p?)"), ("ask", "no"),
                 ("least", "0 1"), ("follows q?", "yes"), ("holds p?", "no model"), ("value 3", "no model"),
                 ("pop", "done"), ("holds p?", "no model"), ("ask", "yes"), ("holds p?", "yes"), ("holds not(p?)",
                                                                                                  "no"),
                 ("follows q?", "no"), ("follows or(p?,q?)", "yes"), ("value 3", "3"), ("least", "nothing"),
                 ("pop", "nothing"), ("depth", "1"), ("said", "p?"), ("holds p?", "yes"))

    def test_values(self):
        self.led(("say same(times(2,x:num),-3)", "done"), ("say same(s:set,union(one(x:num),union(one(5),one(2))))",
                                                          "done"),
                 ("say same(t:tree,node(tip(x:num),node(tip(0),tip(7))))", "done"), ("say same(b:bits,#12)", "done"),
                 ("say same(f:bits(s:set),bnot(b:bits))", "done"), ("ask", "yes"), ("value x:num", "-3/2"),
                 ("value times(2,x:num)", "-3"), ("value times(0,x:num)", "0"), ("value s:set", "{-3/2,2,5}"),
                 ("value none()", "{}"), ("value one(x:num)", "{-3/2}"), ("value one(-1)", "{-1}"),
                 ("value without(s:set,one(2))", "{-3/2,5}"), ("value t:tree", "node(tip(-3/2),node(tip(0),tip(7)))"),
                 ("value tip(x:num)", "tip(-3/2)"), ("value b:bits", "12"), ("value f:bits(s:set)", "3"),
                 ("value badd(b:bits,#5)", "1"), ("value o:thing", "0"), ("value y:tree", "tip(0)"),
                 # By the model a name of another sort has the plain value.
                 ("value x:bits", "0"), ("value s:num", "0"), ("holds in(2,s:set)", "yes"), ("holds bit(3,b:bits)",
                                                                                             "yes"))

    def test_no_line(self):
        for line in ("", " ", "push ", " push", "push 1", "Push", "PUSH", "pop ", "pop 1", "ask ", "ask p?", "least ",
                     "said ", "depth ", "depth 1", "say", "value", "holds", "follows", "sayp?", "say\tp?", "says p?",
                     "log", "copy", "model", "paper", "literals", "say: p?", "p?", "x:num", "quit", "push push"):
            self.led((line, "no line"))
        for line in ("push", "pop", "ask", "least", "said", "depth", "say p?", "value x:num", "holds p?", "follows p?"):
            for end in ("\n", "\r\n", "\n\n", "\r"):
                self.led((line + end, "no line"), (end + line, "no line"))
            self.led((line.encode(), "no line"), ([line], "no line"))
        self.led(("say p?\nsay q?", "no line"), ("say and(p?,\nq?)", "no line"))
        desk = Desk()
        for thing in wrong_things():
            self.led((thing, "no line"), desk=desk)
        self.led(("said", "nothing"), ("depth", "1"), desk=desk)

    def test_bad_text(self):
        for text, place in (("", 0), (" ", 0), (" p?", 0), ("p", 1), ("p? ", 2), ("p??", 2), ("and(p?,)", 7), ("x:num",
                                                                                                               1),
                            ("most(x:num,s:set)", 17), ("not(p?", 6), ("same(x:num,3", 12)):
            for word in ("say", "holds", "follows"):
                self.led((f"{word} {text}", f"bad text {place}"))
        for text, place in (("", 0), ("p?", 1), ("x:num ", 5), (" x:num", 0), ("plus(1,s:set)", 13), ("x:nums", 5),
                            ("10000000", 7), ("1000001", 7), ("#16", 3)):
            self.led((f"value {text}", f"bad text {place}"))

    def test_no_fit(self):
        desk = self.led(("say same(x:num,f:num(1))", "done"), ("ask", "yes"), ("say in(1,x:set)", "no fit name x"),
                        ("say most(f:num(x:num,1),2)", "no fit call f"), ("follows in(1,x:set)", "no fit name x"),
                        ("follows most(f:num(s:set),1)", "no fit call f"), ("say same(y:num,y:num)", "done"),
                        ("follows and(p?,same(y:bits,#1))", "no fit name y"))
        self.led(("said", "same(x:num,f:num(1)) ; same(y:num,y:num)"), ("say same(f:num(x:num),x:num)", "done"),
                 desk=desk)

    def test_too_great(self):
        desk = self.led(*[("say p?", "done")] * 40)
        self.led(("ask", "yes"), ("follows p?", "too great"), ("say q?", "done"), ("ask", "too great"),
                 ("least", "too great"), ("follows p?", "too great"), ("holds p?", "no model"), ("depth", "1"),
                 desk=desk)

    def test_follows_of_what_has_no_not(self):
        deep = text_of(nots(11, ("prop", "p")))
        self.led((f"say {deep}", "done"), (f"follows {deep}", "no line"), (f"follows {deep[4:-1]}", "no"),
                 (f"holds {deep}", "no model"), ("ask", "yes"), (f"holds {deep}", "yes"))
        wide = ("and", (("and", tuple(("and", (("prop", "p"),) * 6) for _ in range(6))),) * 2
                + (("and", tuple([("and", (("prop", "p"),) * 6)] * 3)),) + (("prop", "p"),) * 3)
        while size_of(wide) < 120:
            wide = ("and", wide[1][:-1] + (("not", wide[1][-1]),))
        self.assertEqual((size_of(wide), is_saying(("not", wide))), (120, False))
        self.led((f"follows {text_of(wide)}", "no line"), ("say same(x:num,1)", "done"))
        # Ahead of what doesn't fit.
        unfit = nots(9, ("same", ("name", "x", "set"), ("none",)))
        self.assertEqual(deep_of(nots(1, unfit)), 12)
        self.led(("say same(x:num,1)", "done"), (f"follows {text_of(nots(1, unfit))}", "no line"),
                 (f"follows {text_of(unfit)}", "no fit name x"))

    def test_no_model(self):
        self.led(("value x:num", "no model"), ("holds p?", "no model"), ("ask", "yes"), ("holds p?", "no"),
                 ("push", "done"), ("holds p?", "no"), ("pop", "done"), ("holds p?", "no"), ("say p?", "done"),
                 ("holds p?", "no model"), ("ask", "yes"), ("push", "done"), ("say q?", "done"), ("holds p?",
                                                                                                  "no model"),
                 ("ask", "yes"), ("holds and(p?,q?)", "yes"), ("pop", "done"), ("value 1", "no model"),
                 # A bad text is told ahead.
                 ("value 1x", "bad text 1"), ("holds p", "bad text 1"))

    def test_a_desk_by_itself(self):
        one, other = Desk(), Desk()
        self.led(("say p?", "done"), ("push", "done"), desk=one)
        self.led(("said", "nothing"), ("depth", "1"), ("ask", "yes"), desk=other)
        self.led(("holds p?", "no model"), desk=one)

    def test_each_term_and_saying(self):
        desk = Desk()
        desk.say("ask")
        for term, sort, text, _, _ in TERMS:
            self.led((f"value {text}", plain_value(model_of_nothing().value(term), sort)), desk=desk)
        for saying, text, _, _ in SAYINGS:
            self.led((f"holds {text}", "yes" if model_of_nothing().holds(saying) else "no"), desk=desk)
        for saying, text, _, _ in SAYINGS:
            self.led((f"say {text}", "done"), desk=desk)
        self.led(("said", " ; ".join(row[1] for row in SAYINGS)), desk=desk)

    def test_led_by_chance(self):
        met = set()
        for seed in range(60):
            chance = random.Random(60000 + seed)
            drawing = Drawing(chance)
            sayings = drawing.sayings(10, 2, 2)
            desk, plain = Desk(), PlainDesk()
            for _ in range(30):
                word = chance.choice(["say", "say", "say", "push", "pop", "ask", "ask", "value", "holds", "least",
                                      "follows", "said", "depth"])
                line = word
                if word == "value":
                    line = "value " + text_of(drawing.term(chance.choice(drawing.sorts), 2))
                elif word in ("say", "holds", "follows"):
                    line = word + " " + text_of(chance.choice(sayings))
                if chance.random() < 0.05:
                    line = line[:-1]
                if line.split(" ")[0] in ("say", "value", "holds", "follows") and " " in line or line == word:
                    wanted = plain.say(line)
                    self.led((line, wanted), desk=desk)
                    met.add(wanted.split(" ")[0])
                else:
                    self.led((line, "no line"), desk=desk)
        self.assertTrue({"done", "yes", "no", "nothing", "bad"} <= met)


def model_of_nothing():
    """The model of no sayings."""
    solver = Solver()
    solver.ask()
    return solver.model()


if __name__ == "__main__":
    unittest.main()
