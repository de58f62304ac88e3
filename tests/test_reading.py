"""Reading back: each TEXT gives the very same; of others the place of the first sign that can't stand there."""

import inspect
import random
import unittest

from allsorts import reading
from allsorts.errors import BadText
from allsorts.reading import read_saying, read_term
from allsorts.sayings import is_saying, text_of
from allsorts.terms import is_term
from tests.plain import SORTS as ALL_SORTS
from tests.plain import NAMES, TERM_WORDS, chance_atom, chance_term, plain_place
from tests.samples import ATOMS, SAYINGS, TERMS, P, Q, X, chain_of, nots, num_of, wrong_things

SIGNS = "axnobtsd01239-#:?(), .AZ~"


class ReadingTest(unittest.TestCase):
    def refused(self, function, text, place):
        with self.assertRaises(BadText) as caught:
            function(text)
        self.assertEqual((caught.exception.place, caught.exception.what), (place, "text"),
                         text[:60] if isinstance(text, str) else None)

    def test_arguments_and_file(self):
        for name in ("read_term", "read_saying"):
            function = getattr(reading, name)
            self.assertEqual(function.__module__, "allsorts.reading")
            self.assertEqual(list(inspect.signature(function).parameters), ["text"])
        self.assertEqual(read_term(text="x:num"), X)
        self.assertEqual(read_saying(text="p?"), P)

    def test_each_word_is_read_back(self):
        for row in TERMS:
            self.assertEqual(read_term(row[2]), row[0])
            self.assertTrue(is_term(read_term(row[2])))
        for row in ATOMS + SAYINGS:
            self.assertEqual(read_saying(row[1]), row[0])
            self.assertTrue(is_saying(read_saying(row[1])))

    def test_whatever_has_a_text_is_read_back(self):
        chance = random.Random(1)
        for _ in range(300):
            term = chance_term(chance, chance.choice(ALL_SORTS), 4, NAMES)
            if is_term(term):
                self.assertEqual(read_term(text_of(term)), term)
            atom = chance_atom(chance, ["prop", "same", "most", "in", "bit"], 3)
            saying = ("or", (("not", atom), P, ("and", (atom, Q)), ("or", ())))
            if is_saying(saying):
                self.assertEqual(read_saying(text_of(saying)), saying)

    def test_at_the_bounds(self):
        for term in (chain_of(6), num_of(40), ("number", 10 ** 6), ("number", -10 ** 6), ("bits", 15)):
            self.assertEqual(read_term(text_of(term)), term)
        for saying in (nots(11, P), ("and", (P,) * 6), ("most", num_of(40), num_of(40)), ("or", ())):
            self.assertEqual(read_saying(text_of(saying)), saying)

    def test_the_length_where_it_is_none_all_the_same(self):
        for text in ("1000001", "-1000001", "9999999", "#16", "#99", "plus(x:num,y:set)", "tip(t:tree)", "bnot(0)",
                     "node(1,2)", "times(1000001,x:num)", "times(1,s:set)", "union(#1,none())", "one(none())",
                     "times(2," * 6 + "x:num" + ")" * 6, "tip(" * 4000 + "1" + ")" * 4000):
            self.refused(read_term, text, len(text))
        for text in ("same(x:num,y:set)", "in(s:set,x:num)", "most(x:num,#3)", "bit(0,3)",
                     "not(" * 12 + "p?" + ")" * 12,
                     "not(" * 4000 + "p?" + ")" * 4000, "and(p?,most(1000001,2))", "same(bits:num,bits:bits)"):
            self.refused(read_saying, text, len(text))
        wide = "and(" + ",".join(["or(" + ",".join(["not(p?)"] * 6) + ")"] * 6) + ")"
        self.assertEqual(text_of(read_saying(wide)), wide)
        wider = "and(" + ",".join([wide] * 2) + ")"
        self.refused(read_saying, wider, len(wider))

    def test_the_length_where_signs_lack(self):
        for row in TERMS:
            for cut in range(len(row[2])):
                # What is left of a number may be one, too.
                if plain_place(row[2][:cut], "term") is not None:
                    self.refused(read_term, row[2][:cut], cut)
        for row in ATOMS + SAYINGS:
            for cut in range(len(row[1])):
                self.refused(read_saying, row[1][:cut], cut)

    def test_words_and_names_that_begin_alike(self):
        for text, term in (("n:num", ("name", "n", "num")), ("no:num", ("name", "no", "num")),
                           ("non:num", ("name", "non", "num")), ("none:num", ("name", "none", "num")),
                           ("none()", ("none",)), ("nod:num", ("name", "nod", "num")),
                           ("bits:num", ("name", "bits", "num")),
                           ("in:set", ("name", "in", "set")), ("withou:num", ("name", "withou", "num")),
                           ("plus:num(1)", ("call", "plus", (("number", 1),), "num"))):
            self.assertEqual(read_term(text), term)
        for text, place in (("n", 1), ("no", 2), ("none", 4), ("none(", 5), ("none(1", 5), ("non(", 3), ("not(", 3),
                            ("bit(", 3), ("bits(", 4), ("in(", 2), ("p?", 1), ("number(", 6), ("name(", 4),
                            ("call(", 4),
                            ("without", 7), ("without:", 7), ("without(", 8), ("withouu", 6), ("withouts", 7),
                            ("abcdefg", 6), ("abcdef", 6), ("x:", 2), ("x:t", 3), ("x:tr", 4), ("x:te", 3), ("x:a", 2),
                            ("x:num:", 5), ("x:numb", 5), ("x:setx", 5), ("", 0), ("(", 0), ("?", 0), (":", 0),
                            ("X", 0)):
            self.refused(read_term, text, place)
        for text in ("n?", "no?", "not?", "nod?", "none?", "bit?", "in?", "and?", "or?", "same?", "p?", "withou?"):
            self.assertEqual(read_saying(text), ("prop", text[:-1]))
        for text, place in (("n", 1), ("not", 3), ("not(", 4), ("none(", 4), ("nod:num", 3), ("x:num", 1), ("p??", 2),
                            ("p?)", 2), ("without(", 6), ("abcdefg?", 6), ("bits:", 4), ("in(", 3), ("in(p?", 4),
                            ("and(p?x", 6), ("and(,", 4), ("and(p?,)", 7), ("or(", 3), ("or()", None), ("not()", 4),
                            ("same()", 5), ("same(1)", 6), ("same(1,2,", 8), ("#1", 0), ("1", 0), ("-", 0), ("", 0)):
            if place is not None:
                self.refused(read_saying, text, place)

    def test_numbers(self):
        for text, place in (("-", 1), ("-0", 1), ("-a", 1), ("--1", 1), ("00", 1), ("01", 1), ("12345678", 7),
                            ("-12345678", 8), ("1-", 1), ("1.0", 1), ("+1", 0), (" 1", 0), ("1 ", 1), ("#", 1),
                            ("#-1", 1),
                            ("#00", 2), ("#01", 2), ("#123", 3), ("#1a", 2), ("##", 1), ("times(", 6), ("times(x", 6),
                            ("times(-0", 7), ("times(01", 7), ("times(1)", 7), ("times(12345678", 13), ("1:num", 1)):
            self.refused(read_term, text, place)
        for text, place in (("bit(4", 4), ("bit(-", 4), ("bit(00", 5), ("bit(0)", 5), ("bit(3,", 6), ("bit(x", 4),
                            ("bit(10", 5)):
            self.refused(read_saying, text, place)
        self.assertEqual(read_term("0"), ("number", 0))
        self.assertEqual(read_term("#0"), ("bits", 0))
        self.assertEqual(read_term("times(0,0)"), ("times", 0, ("number", 0)))

    def test_how_many_stand_within(self):
        self.refused(read_term, "f:num()", 6)
        self.refused(read_term, "f:num(1,2,3,4)", 11)
        self.refused(read_term, "plus(1)", 6)
        self.refused(read_term, "plus(1,2,3)", 8)
        self.refused(read_term, "none(1)", 5)
        self.refused(read_term, "tip(1,2)", 5)
        self.refused(read_saying, "and(" + "p?," * 6 + "p?)", 21)
        self.refused(read_saying, "or(" + "p?," * 6, 20)
        self.refused(read_saying, "not(p?,q?)", 6)
        self.refused(read_saying, "bit(1,#1,#2)", 8)
        self.refused(read_term, "f:num(p?)", 7)
        self.refused(read_saying, "and(x:num)", 5)

    def test_how_many_each_word_takes(self):
        rows = [("term", word, "x:num", count) for word, count in TERM_WORDS.items()] + [("saying", "not", "p?", 1)]
        rows += [("saying", word, "x:num", 2) for word in ("same", "most", "in")]
        rows += [("term", "times(2,", "x:num", 1), ("saying", "bit(2,", "x:num", 1)]
        for kind, word, inner, count in rows:
            function = read_term if kind == "term" else read_saying
            start = word if "(" in word else word + "("
            # A bracket too early, a comma too late: each is refused where it stands.
            for less in range(count):
                text = start + ",".join([inner] * less)
                self.refused(function, text + ")", len(text))
                self.refused(function, text + "?", len(text))
            self.refused(function, start + ",".join([inner] * count) + ",", len(start + ",".join([inner] * count)))
            self.refused(function, start + ",".join([inner] * count), len(start + ",".join([inner] * count)))

    def test_as_a_plain_reading_tells(self):
        chance = random.Random(2)
        texts = [(row[2], "term") for row in TERMS] + [(row[1], "saying") for row in ATOMS + SAYINGS]
        for text, kind in texts:
            for _ in range(40):
                at = chance.randrange(len(text) + 1)
                sign = chance.choice(SIGNS)
                self.compared(text[:at] + sign + text[at:], kind)
                self.compared(text[:at] + sign + text[at + 1:], kind)
                self.compared(text[:at] + text[at + 1:], kind)
                self.compared(text[:at], kind)

    def compared(self, text, kind):
        function = read_term if kind == "term" else read_saying
        place = plain_place(text, kind)
        try:
            thing = function(text)
        except BadText as error:
            self.assertEqual(error.place, len(text) if place is None else place, text)
        else:
            self.assertIsNone(place, text)
            self.assertEqual(text_of(thing), text)

    def test_long_texts(self):
        for text, place in (("tip(" * 5000, 20000), ("f:num(" * 3333, 19998),
                            ("tip(" * 4000 + "x:num" + ")" * 3000, 19005),
                            ("tip(" * 4999 + "?", 19996), ("plus(1," * 2500 + "1))", 17503),
                            ("plus(1," * 2500 + "1),", 17502), ("1" * 20000, 7),
                            ("x" * 20000, 6), ("x:num," * 3000, 5), ("tip(" * 2000 + "1" + ")" * 2001, 10001)):
            self.refused(read_term, text, place)
        for text, place in (("not(" * 5000, 20000), ("and(" * 5000, 20000), ("or(p?," * 3333, 19998),
                            ("and(" * 4000 + ")" * 3000, 19000), ("not(" * 4999 + "1", 19996), ("?" * 20000, 0),
                            ("and(" + "p?," * 6000, 21), ("and(" * 3000 + ")" * 3001, 15000)):
            self.refused(read_saying, text, place)

    def test_of_what_is_no_text(self):
        for thing in wrong_things() + [X, P, b"p?", ["p?"], ("p?",)]:
            if not isinstance(thing, str):
                self.refused(read_term, thing, 0)
                self.refused(read_saying, thing, 0)


if __name__ == "__main__":
    unittest.main()
