"""A DESK led line by line, beside a solver of which is asked the same; each refusal; texts of values."""

import inspect
import random
import unittest

from allsorts.desk import Desk
from allsorts.errors import BadText, NoFit, Nothing, TooGreat
from allsorts.reading import read_saying, read_term
from allsorts.sayings import deep_of, is_saying, size_of, text_of
from allsorts.solver import Solver
from allsorts.terms import is_term, sort_of
from tests.drawn import Drawing
from tests.plain import inner_of
from tests.samples import SAYINGS, TERMS, chain_of, nots, num_of, wrong_things


def plain_fraction(fraction):
    return str(fraction[0]) if fraction[1] == 1 else "/".join(map(str, fraction))


def plain_value(value, sort):
    """The text of a VALUE."""
    if sort == "num":
        return plain_fraction(value)
    if sort == "set":
        return "{" + ",".join(map(plain_fraction, value)) + "}"
    if sort == "tree" and value[0] == "tip":
        return f"tip({plain_fraction(value[1])})"
    if sort == "tree":
        return f"node({plain_value(value[1], 'tree')},{plain_value(value[2], 'tree')})"
    return str(value)


def plain_conflict(sayings):
    """The refusal of the first name, or call, that stands otherwise than ahead; None where there is none."""
    ahead = {}

    def walk(thing):
        if thing[0] in ("name", "call"):
            terms = thing[2] if thing[0] == "call" else ()
            place = (thing[0], thing[1])
            form = (tuple(sort_of(term) for term in terms), thing[-1])
            if place in ahead and ahead[place] != form:
                return "no fit " + " ".join(place)
            ahead[place] = form
        for inner in thing[1] if thing[0] in ("and", "or") else inner_of(thing):
            told = walk(inner)
            if told is not None:
                return told
        return None

    for saying in sayings:
        told = walk(saying)
        if told is not None:
            return told
    return None


def moved(thing):
    """A thing of a drawing, in which names are called as those of another SORT are."""
    if isinstance(thing, tuple) and thing[:1] == ("name",):
        return ("name", "bcdea"["abcde".index(thing[1][0])] + thing[1][1:], thing[2])
    return tuple(moved(part) for part in thing) if isinstance(thing, tuple) else thing


class PlainDesk:
    """Answers by a solver."""

    def __init__(self):
        self.solver = Solver()

    def say(self, line):
        solver = self.solver
        try:
            if line in ("push", "pop"):
                getattr(solver, line)()
                return "done"
            if line == "ask":
                return solver.ask()
            if line == "depth":
                return str(solver.depth())
            if line == "said":
                return " ; ".join(text_of(saying) for saying in solver.said()) or "nothing"
            if line == "least":
                lot = solver.least()
                return "nothing" if lot is None else " ".join(map(str, lot))
            word, text = line.split(" ", 1)
            thing = read_term(text) if word == "value" else read_saying(text)
            if word == "say":
                solver.say(thing)
                return "done"
            if word == "follows":
                if not is_saying(("not", thing)):
                    return "no line"
                return "yes" if solver.follows(thing)[0] == "follows" else "no"
            conflict = plain_conflict(solver.said() + [thing])
            if conflict is not None:
                return conflict
            if solver.model() is None:
                return "no model"
            if word == "value":
                return plain_value(solver.model().value(thing), sort_of(thing))
            return "yes" if solver.model().holds(thing) else "no"
        except BadText as error:
            return f"bad text {error.place}"
        except NoFit as error:
            return f"no fit {error.what} {error.name}"
        except TooGreat:
            return "too great"
        except Nothing:
            return "nothing"


class DeskTest(unittest.TestCase):
    def led(self, *rows, desk=None):
        """Leads a desk by rows of lines and what is due."""
        desk = Desk() if desk is None else desk
        for line, wanted in rows:
            told = desk.say(line)
            self.assertIs(type(told), str)
            self.assertEqual(told, wanted, line)
        return desk

    def test_arguments_and_files(self):
        self.assertEqual(Desk.__module__, "allsorts.desk")
        self.assertEqual(list(inspect.signature(Desk).parameters), [])
        self.assertEqual(list(inspect.signature(vars(Desk)["say"]).parameters), ["self", "line"])
        self.assertEqual(Desk().say(line="ask"), "yes")

    def test_each_line(self):
        self.led(("said", "nothing"), ("depth", "1"), ("ask", "yes"), ("least", "nothing"), ("say p?", "done"),
                 ("push", "done"), ("depth", "2"), ("say not(p?)", "done"), ("said", "p? ; not(p?)"), ("ask", "no"),
                 ("least", "0 1"), ("follows q?", "yes"), ("holds p?", "no model"), ("value 3", "no model"),
                 ("pop", "done"), ("holds p?", "no model"), ("ask", "yes"), ("holds p?", "yes"), ("holds not(p?)",
                                                                                                  "no"),
                 ("follows q?", "no"), ("follows or(p?,q?)", "yes"), ("value 3", "3"), ("least", "nothing"),
                 ("pop", "nothing"), ("depth", "1"), ("said", "p?"), ("holds p?", "yes"))

    def test_values(self):
        self.led(("say same(times(2,x:num),-3)", "done"), ("say same(s:set,union(one(x:num),union(one(5),one(2))))",
                                                          "done"),
                 ("say same(t:tree,node(tip(x:num),node(tip(0),tip(7))))", "done"), ("say same(b:bits,#12)", "done"),
                 ("say same(f:bits(s:set),bnot(b:bits))", "done"), ("ask", "yes"), ("value x:num", "-3/2"),
                 ("value times(2,x:num)", "-3"), ("value times(0,x:num)", "0"), ("value s:set", "{-3/2,2,5}"),
                 ("value none()", "{}"), ("value one(x:num)", "{-3/2}"), ("value one(-1)", "{-1}"),
                 ("value without(s:set,one(2))", "{-3/2,5}"), ("value t:tree", "node(tip(-3/2),node(tip(0),tip(7)))"),
                 ("value tip(x:num)", "tip(-3/2)"), ("value b:bits", "12"), ("value f:bits(s:set)", "3"),
                 ("value badd(b:bits,#5)", "1"), ("value o:thing", "0"), ("value y:tree", "tip(0)"),
                 ("holds in(2,s:set)", "yes"), ("holds bit(3,b:bits)", "yes"))

    def test_no_line(self):
        for line in ("", " ", "push ", " push", "push 1", "Push", "PUSH", "pop ", "pop 1", "ask ", "ask p?", "least ",
                     "said ", "depth ", "depth 1", "say", "value", "holds", "follows", "sayp?", "say\tp?", "says p?",
                     "log", "copy", "model", "paper", "literals", "say: p?", "p?", "x:num", "quit", "push push"):
            self.led((line, "no line"))
        for line in ("push", "pop", "ask", "least", "said", "depth", "say p?", "value x:num", "holds p?", "follows p?"):
            for end in ("\n", "\r\n", "\n\n", "\r"):
                self.led((line + end, "no line"), (end + line, "no line"))
            self.led((line.encode(), "no line"), ([line], "no line"))
        self.led(("say p?\nsay q?", "no line"), ("say and(p?,\nq?)", "no line"))
        desk = Desk()
        for thing in wrong_things():
            self.led((thing, "no line"), desk=desk)
        self.led(("said", "nothing"), ("depth", "1"), desk=desk)

    def test_bad_text(self):
        for text, place in (("", 0), (" ", 0), (" p?", 0), ("p", 1), ("p? ", 2), ("p??", 2), ("and(p?,)", 7), ("x:num",
                                                                                                               1),
                            ("most(x:num,s:set)", 17), ("not(p?", 6), ("same(x:num,3", 12)):
            for word in ("say", "holds", "follows"):
                self.led((f"{word} {text}", f"bad text {place}"))
        for text, place in (("", 0), ("p?", 1), ("x:num ", 5), (" x:num", 0), ("plus(1,s:set)", 13), ("x:nums", 5),
                            ("10000000", 7), ("1000001", 7), ("#16", 3)):
            self.led((f"value {text}", f"bad text {place}"))

    def test_no_fit(self):
        desk = self.led(("say same(x:num,f:num(1))", "done"), ("ask", "yes"), ("say in(1,x:set)", "no fit name x"),
                        ("say most(f:num(x:num,1),2)", "no fit call f"), ("follows in(1,x:set)", "no fit name x"),
                        ("follows most(f:num(s:set),1)", "no fit call f"), ("say same(y:num,y:num)", "done"),
                        ("follows and(p?,same(y:bits,#1))", "no fit name y"))
        self.led(("said", "same(x:num,f:num(1)) ; same(y:num,y:num)"), ("say same(f:num(x:num),x:num)", "done"),
                 desk=desk)

    def test_no_fit_of_what_is_asked_of_the_model(self):
        rows = (("value x:set", "no fit name x"), ("value tip(plus(1,times(2,f:num(x:num,1))))", "no fit call f"),
                ("value f:num(1)", "no fit call f"), ("value f:num(none())", "no fit call f"),
                ("value f:set(1,none())", "no fit call f"), ("value f:num(none(),1)", "no fit call f"),
                ("value f:num(1,none(),x:set)", "no fit call f"), ("value g:num(x:set,f:num(1))", "no fit name x"),
                ("value g:num(f:num(1),x:set)", "no fit call f"), ("value g:num(g:num(x:set))", "no fit call g"),
                ("holds in(1,x:set)", "no fit name x"), ("holds same(x:tree,x:tree)", "no fit name x"),
                ("holds or(p?,not(most(f:num(1),x:num)))", "no fit call f"), ("holds in(1,f:set(1,none()))",
                                                                              "no fit call f"),
                ("holds and(same(s:bits,#1),same(x:bits,#1))", "no fit name s"),
                # Within itself, of what doesn't stand at all.
                ("value g:num(h:num,h:set)", "no fit name h"), ("value g:num(g:num(1,2))", "no fit call g"),
                ("value node(tip(h:num),h:tree)", "no fit name h"), ("holds same(h:set,one(h:num))", "no fit name h"),
                ("holds and(same(h:thing,h:thing),or(),bit(0,h:bits))", "no fit name h"),
                ("holds and(most(g:num(1),1),most(1,g:num(#1)))", "no fit call g"))
        first = "and(same(x:num,0),most(f:num(x:num,none()),3))"
        desk = self.led((f"say {first}", "done"), ("push", "done"), ("say same(s:set,none())", "done"))
        for ask in ((), (("ask", "yes"),)):
            self.led(*ask, *rows, desk=desk)
        self.led(("value x:num", "0"), ("holds most(f:num(x:num,s:set),3)", "yes"), ("value h:tree", "tip(0)"),
                 ("holds in(h:num,h:set)", "no fit name h"), ("holds x?", "no"), ("value x:thing(1)", "0"),
                 ("value f:bits", "0"), ("said", f"{first} ; same(s:set,none())"), ("depth", "2"),
                 # What went stands no more, what came anew does.
                 ("say in(1,s:set)", "done"), *rows, ("ask", "no"), *rows, ("value h:set", "no model"),
                 ("value s:num", "no fit name s"), ("pop", "done"), ("value s:num", "no model"), ("ask", "yes"),
                 ("value s:num", "0"), ("holds same(s:bits,#0)", "yes"), ("value x:set", "no fit name x"), desk=desk)

    def test_no_fit_of_the_greatest(self):
        term = ("plus", num_of(31), ("plus", num_of(6), ("name", "x", "num")))
        self.assertEqual((size_of(term), is_term(("tip", term))), (40, False))
        deep = chain_of(6)
        self.assertEqual((deep_of(deep), is_term(("tip", deep))), (6, False))
        saying = nots(9, ("same", ("name", "x", "num"), ("number", 1)))
        self.assertEqual((deep_of(nots(1, saying)), is_saying(nots(2, saying))), (12, False))
        for rows in ((), (("ask", "yes"),)):
            self.led(("say same(x:set,none())", "done"), *rows, (f"value {text_of(term)}", "no fit name x"),
                     (f"holds {text_of(nots(1, saying))}", "no fit name x"))
        self.led((f"value {text_of(term)}", "no model"), (f"value {text_of(deep)}", "no model"), ("ask", "yes"),
                 (f"value {text_of(term)}", plain_fraction(model_of_nothing().value(term))),
                 (f"value {text_of(deep)}", plain_value(model_of_nothing().value(deep), sort_of(deep))))

    def test_no_fit_ahead_and_behind(self):
        # Behind bad texts and what is no line, ahead of no model and of too many that stand.
        desk = self.led(*[("say same(x:num,1)", "done")] * 41)
        self.led(("value x:set ", "bad text 5"), ("value plus(x:num,x:set)", "bad text 17"),
                 ("values x:set", "no line"), ("value x:set\n", "no line"), ("holds in(1,x:set", "bad text 10"),
                 ("holds x:set", "bad text 1"),
                 ("value x:set", "no fit name x"), ("holds in(1,x:set)", "no fit name x"),
                 ("follows in(1,x:set)", "no fit name x"), ("value x:num", "no model"), ("ask", "too great"),
                 ("value x:set", "no fit name x"), ("value x:num", "no model"), desk=desk)

    def test_too_great(self):
        desk = self.led(*[("say p?", "done")] * 40)
        self.led(("ask", "yes"), ("follows p?", "too great"), ("say q?", "done"), ("ask", "too great"),
                 ("least", "too great"), ("follows p?", "too great"), ("holds p?", "no model"), ("depth", "1"),
                 desk=desk)

    def test_follows_of_what_has_no_not(self):
        deep = text_of(nots(11, ("prop", "p")))
        self.led((f"say {deep}", "done"), (f"follows {deep}", "no line"), (f"follows {deep[4:-1]}", "no"),
                 (f"holds {deep}", "no model"), ("ask", "yes"), (f"holds {deep}", "yes"))
        wide = ("and", (("and", tuple(("and", (("prop", "p"),) * 6) for _ in range(6))),) * 2
                + (("and", tuple([("and", (("prop", "p"),) * 6)] * 3)),) + (("prop", "p"),) * 3)
        while size_of(wide) < 120:
            wide = ("and", wide[1][:-1] + (("not", wide[1][-1]),))
        self.assertEqual((size_of(wide), is_saying(("not", wide))), (120, False))
        self.led((f"follows {text_of(wide)}", "no line"), ("say same(x:num,1)", "done"))
        # Ahead of what doesn't fit.
        unfit = nots(9, ("same", ("name", "x", "set"), ("none",)))
        self.assertEqual(deep_of(nots(1, unfit)), 12)
        self.led(("say same(x:num,1)", "done"), (f"follows {text_of(nots(1, unfit))}", "no line"),
                 (f"follows {text_of(unfit)}", "no fit name x"))

    def test_no_model(self):
        self.led(("value x:num", "no model"), ("holds p?", "no model"), ("ask", "yes"), ("holds p?", "no"),
                 ("push", "done"), ("holds p?", "no"), ("pop", "done"), ("holds p?", "no"), ("say p?", "done"),
                 ("holds p?", "no model"), ("ask", "yes"), ("push", "done"), ("say q?", "done"), ("holds p?",
                                                                                                  "no model"),
                 ("ask", "yes"), ("holds and(p?,q?)", "yes"), ("pop", "done"), ("value 1", "no model"),
                 # A bad text is told ahead.
                 ("value 1x", "bad text 1"), ("holds p", "bad text 1"))

    def test_a_desk_by_itself(self):
        one, other = Desk(), Desk()
        self.led(("say p?", "done"), ("push", "done"), desk=one)
        self.led(("said", "nothing"), ("depth", "1"), ("ask", "yes"), desk=other)
        self.led(("holds p?", "no model"), desk=one)

    def test_each_term_and_saying(self):
        desk = Desk()
        desk.say("ask")
        for term, sort, text, _, _ in TERMS:
            self.led((f"value {text}", plain_value(model_of_nothing().value(term), sort)), desk=desk)
        for saying, text, _, _ in SAYINGS:
            self.led((f"holds {text}", "yes" if model_of_nothing().holds(saying) else "no"), desk=desk)
        for saying, text, _, _ in SAYINGS:
            self.led((f"say {text}", "done"), desk=desk)
        self.led(("said", " ; ".join(row[1] for row in SAYINGS)), desk=desk)

    def test_led_by_chance(self):
        met = set()
        for seed in range(80):
            chance = random.Random(60000 + seed)
            drawing = Drawing(chance)
            sayings = drawing.sayings(10, 2, 2)
            other = Drawing(chance)
            if seed % 2 == 1:
                sayings += [moved(saying) for saying in other.sayings(6, 2, 2)]
            desk, plain = Desk(), PlainDesk()
            for _ in range(30):
                word = chance.choice(["say", "say", "say", "push", "pop", "ask", "ask", "value", "holds", "least",
                                      "follows", "said", "depth"])
                line = word
                if word == "value":
                    term = drawing.term(chance.choice(drawing.sorts), 2)
                    if seed % 2 == 1 and chance.random() < 0.5:
                        term = moved(other.term(chance.choice(other.sorts), 2))
                    line = "value " + text_of(term)
                elif word in ("say", "holds", "follows"):
                    line = word + " " + text_of(chance.choice(sayings))
                if chance.random() < 0.05:
                    line = line[:-1]
                if line.split(" ")[0] in ("say", "value", "holds", "follows") and " " in line or line == word:
                    wanted = plain.say(line)
                    self.led((line, wanted), desk=desk)
                    met.add((word, wanted[:6]))
                else:
                    self.led((line, "no line"), desk=desk)
        self.assertTrue({(word, "no fit") for word in ("say", "value", "holds", "follows")} <= met)
        self.assertTrue({("ask", "yes"), ("ask", "no"), ("holds", "yes"), ("holds", "no"), ("holds", "no mod"),
                         ("value", "no mod"), ("pop", "nothin"), ("say", "bad te"), ("value", "bad te")} <= met)


def model_of_nothing():
    """The model of no sayings."""
    solver = Solver()
    solver.ask()
    return solver.model()


if __name__ == "__main__":
    unittest.main()
