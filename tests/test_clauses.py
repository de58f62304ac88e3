"""LITERALS, CLAUSES, and the CLAUSES of SAYINGS."""

import inspect
import itertools
import random
import unittest

from allsorts import clauses
from allsorts.clauses import (clause_of, clauses_of, is_clause, is_literal, literal_of, opposed, turned_right)
from allsorts.errors import BadText, BadValue, NoFit
from allsorts.sayings import text_of
from tests.plain import all_truths
from tests.samples import ATOMS, SAYINGS, TERMS, P, Q, X, Y, chain_of, nots, num_of, wrong_things

R = ("prop", "r")
XY = ("same", X, Y)
YX = ("same", Y, X)


def part(number, truth=True):
    return (("part", number), truth)


class InterfaceTest(unittest.TestCase):
    def test_arguments_and_files(self):
        for name, arguments in (("turned_right", ["atom"]), ("opposed", ["literal"]), ("is_literal", ["thing"]),
                                ("is_clause", ["thing"]), ("clause_of", ["literals"]), ("clauses_of", ["sayings"]),
                                ("literal_of", ["saying", "sayings"])):
            function = getattr(clauses, name)
            self.assertEqual(function.__module__, "allsorts.clauses")
            self.assertEqual(list(inspect.signature(function).parameters), arguments)

    def test_arguments_by_name(self):
        self.assertEqual(turned_right(atom=YX), XY)
        self.assertEqual(opposed(literal=(P, True)), (P, False))
        self.assertIs(is_literal(thing=(P, True)), True)
        self.assertIs(is_clause(thing=()), True)
        self.assertEqual(clause_of(literals=[(P, True)]), ((P, True),))
        self.assertEqual(literal_of(saying=P, sayings=[P]), (P, True))
        self.assertEqual(clauses_of(sayings=[P]), [((P, True),)])


class LiteralTest(unittest.TestCase):
    def refused(self, what, function, *arguments):
        with self.assertRaises(BadValue) as caught:
            function(*arguments)
        self.assertEqual(caught.exception.what, what)
        self.assertNotIsInstance(caught.exception, BadText)

    def test_turned_right(self):
        self.assertEqual(turned_right(XY), XY)
        self.assertEqual(turned_right(YX), XY)
        self.assertEqual(turned_right(("same", X, X)), ("same", X, X))
        # By TEXTS: "10" is less than "9", "-1" less than "0", "f:num(x:num)" less than "x:num".
        ten, nine = ("number", 10), ("number", 9)
        self.assertEqual(turned_right(("same", nine, ten)), ("same", ten, nine))
        self.assertEqual(turned_right(("same", ten, nine)), ("same", ten, nine))
        call = ("call", "f", (X,), "num")
        self.assertEqual(turned_right(("same", X, call)), ("same", call, X))
        for atom in (("most", Y, X), ("in", Y, ("one", X)), ("bit", 0, ("bits", 1)), P):
            self.assertEqual(turned_right(atom), atom)

    def test_turned_right_of_each(self):
        for row in ATOMS:
            atom = turned_right(row[0])
            self.assertEqual(turned_right(atom), atom)
            if atom[0] == "same":
                self.assertLessEqual(text_of(atom[1]), text_of(atom[2]))
                self.assertEqual(turned_right(("same", atom[2], atom[1])), atom)
            else:
                self.assertEqual(atom, row[0])

    def test_turned_right_refused(self):
        others = [list(P), (P, True), ("part", 0), ("same", X, chain_of(7))]
        for thing in wrong_things() + [row[0] for row in SAYINGS + TERMS] + others:
            self.refused("atom", turned_right, thing)

    def test_literals(self):
        for row in ATOMS:
            for truth in (True, False):
                self.assertIs(is_literal((turned_right(row[0]), truth)), True)
        self.assertIs(is_literal((XY, True)), True)
        self.assertIs(is_literal((YX, True)), False)
        for number in (0, 1, 2, 10 ** 6, 10 ** 999):
            self.assertIs(is_literal(part(number)), True)
        for number in (-1, True, False, None, "0", 0.0, (0,)):
            self.assertIs(is_literal(part(number)), False)

    def test_what_is_no_literal(self):
        for thing in ((P,), (P, True, True), [P, True], (P, 1), (P, 0), (P, None), (P, "True"), (list(P), True), P, XY,
                      (X, True), (("part",), True), (("part", 0, 0), True), (["part", 0], True), (("parts", 0), True),
                      (("not", P), True), (("and", ()), True), ((P, True), True), (("part", 0), 1), (YX, False),
                      (("most", chain_of(7), X), True), (("same", num_of(41), num_of(41)), True), (None, True),
                      ("p?", True)):
            self.assertIs(is_literal(thing), False, thing)
        for thing in wrong_things():
            self.assertIs(is_literal(thing), False)
            is_part = type(thing) is tuple and thing and type(thing[0]) is str and thing[0] == "part"
            self.assertIs(is_literal((thing, True)), bool(is_part))
            self.assertIs(is_literal((P, thing)), type(thing) is bool)
            self.assertIs(is_literal((("part", thing), True)), type(thing) is int and thing >= 0)

    def test_opposed(self):
        self.assertEqual(opposed((P, True)), (P, False))
        self.assertEqual(opposed((P, False)), (P, True))
        self.assertEqual(opposed(part(3)), part(3, False))
        self.assertIs(opposed(part(3))[1], False)
        for thing in wrong_things() + [(YX, True), (P, 1), [P, True], P]:
            self.refused("literal", opposed, thing)


class ClauseTest(unittest.TestCase):
    def refused(self, what, function, *arguments):
        with self.assertRaises(BadValue) as caught:
            function(*arguments)
        self.assertEqual(caught.exception.what, what)

    def order(self):
        """Literals in their order."""
        atoms = sorted([turned_right(row[0]) for row in ATOMS] + [("most", X, Y)], key=text_of)
        return [(sign, truth) for sign in [("part", 0), ("part", 2), ("part", 10)] + atoms for truth in (False, True)]

    def test_the_order(self):
        rising = self.order()
        self.assertIs(is_clause(tuple(rising)), True)
        for at, one in enumerate(rising):
            for to, other in enumerate(rising):
                self.assertIs(is_clause((one, other)), at < to)
                wanted = (one,) if at == to else (one, other) if at < to else (other, one)
                self.assertEqual(clause_of([one, other]), wanted)

    def test_clause_of(self):
        chance = random.Random(4)
        rising = self.order()
        for _ in range(50):
            some = chance.sample(rising, chance.randrange(len(rising)))
            mixed = some + chance.choices(some, k=3) if some else []
            chance.shuffle(mixed)
            wanted = tuple(one for one in rising if one in mixed)
            self.assertEqual(clause_of(mixed), wanted)
            self.assertEqual(clause_of(tuple(mixed)), wanted)
            self.assertIs(is_clause(wanted), True)
        self.assertEqual(clause_of([]), ())
        self.assertEqual(clause_of([(P, True), (P, False)]), ((P, False), (P, True)))

    def test_what_is_no_clause(self):
        for thing in ([], [(P, True)], ((P, True), (P, True)), ((P, True), (P, False)), ((Q, True), (P, True)),
                      (P, True), ((P, True), part(0)), (part(2), part(1)), ((P, True), None), ((P, 1),), ((YX, True),),
                      None, "", {}, ((P, False), [Q, True])):
            self.assertIs(is_clause(thing), False, thing)
        self.assertIs(is_clause(()), True)
        for thing in wrong_things():
            self.assertIs(is_clause(thing), type(thing) is tuple and thing == ())
            self.assertIs(is_clause((thing,)), False)
        self.assertIs(is_clause(((P, True),) * 10 ** 5), False)

    def test_clause_of_refused(self):
        for thing in wrong_things():
            if not (type(thing) in (list, tuple) and len(thing) == 0):
                self.refused("literals", clause_of, thing)
            self.refused("literals", clause_of, [thing])
            self.refused("literals", clause_of, ((P, True), thing))
        for thing in ((P, True), [(YX, True)], [(P, 1)], {(P, True): 1}, {(P, True)}, [[P, True]], iter([(P, True)])):
            self.refused("literals", clause_of, thing)

    def test_nothing_handed_in_is_changed(self):
        given = [(Q, True), (P, True), (Q, True)]
        clause_of(given)
        self.assertEqual(given, [(Q, True), (P, True), (Q, True)])


class SayingsTest(unittest.TestCase):
    def test_literal_of(self):
        inner = ("and", (P, ("not", Q)))
        outer = ("or", (("not", inner), inner, ("and", ()), YX))
        sayings = [("not", R), outer, ("or", ()), ("and", (Q,))]
        for saying, literal in ((R, (R, True)), (("not", R), (R, False)), (P, (P, True)), (Q, (Q, True)),
                                (("not", Q), (Q, False)), (inner, part(0)), (("not", inner), part(0, False)),
                                (("and", ()), part(1)), (YX, (XY, True)), (outer, part(2)), (("or", ()), part(3)),
                                (("and", (Q,)), part(4))):
            self.assertEqual(literal_of(saying, sayings), literal)
            self.assertEqual(literal_of(saying, tuple(sayings)), literal)
        self.assertEqual(literal_of(nots(4, P), [nots(11, P)]), (P, True))
        self.assertEqual(literal_of(nots(5, P), [nots(11, P)]), (P, False))

    def test_literal_of_what_is_none_of_them(self):
        for saying in (Q, ("not", P), ("and", (P,)), XY, ("or", (YX, P)), ("and", ())):
            with self.assertRaises(BadValue) as caught:
                literal_of(saying, [("or", (P, YX))])
            self.assertEqual(caught.exception.what, "saying")

    def test_numbers_as_they_are_met(self):
        one, two = ("and", (P,)), ("or", (P,))
        both = ("or", (two, ("not", one), two))
        self.assertEqual([literal_of(saying, [both, one]) for saying in (two, one, both)], [part(0), part(1), part(2)])
        self.assertEqual([literal_of(saying, [one, both]) for saying in (two, one, both)], [part(1), part(0), part(2)])
        # Of one TEXT is what is turned alike alone.
        turned = [("and", (XY,)), ("and", (YX,))]
        self.assertEqual([literal_of(saying, turned) for saying in turned], [part(0), part(1)])

    def test_the_clauses_of_an_and(self):
        saying = ("and", (Q, ("not", P)))
        self.assertEqual(clauses_of([saying]), [
            clause_of([part(0, False), (Q, True)]), clause_of([part(0, False), (P, False)]),
            clause_of([part(0), (Q, False), (P, True)]), (part(0),)])
        self.assertEqual(clauses_of([("and", ())]), [(part(0),)])
        self.assertEqual(clauses_of([("not", ("and", ()))]), [(part(0),), (part(0, False),)])

    def test_the_clauses_of_an_or(self):
        saying = ("or", (Q, ("not", P)))
        self.assertEqual(clauses_of([saying]), [
            clause_of([part(0, False), (Q, True), (P, False)]), clause_of([part(0), (Q, False)]),
            clause_of([part(0), (P, True)]), (part(0),)])
        self.assertEqual(clauses_of([("or", ())]), [(part(0, False),), (part(0),)])

    def test_the_order_and_each_once(self):
        inner = ("or", (P, P))
        sayings = [Q, ("and", (inner, inner)), Q, inner, ("not", ("not", Q)), YX]
        self.assertEqual(clauses_of(sayings), [
            (part(0, False), (P, True)), (part(0), (P, False)), (part(0), part(1, False)), (part(0, False), part(1)),
            ((Q, True),), (part(1),), (part(0),), ((XY, True),)])
        self.assertEqual(clauses_of([]), [])
        self.assertEqual(clauses_of([nots(11, P)]), [((P, False),)])

    def test_a_literal_with_what_opposes_it(self):
        self.assertEqual(clauses_of([("or", (P, ("not", P)))])[0], (part(0, False), (P, False), (P, True)))
        self.assertEqual(clauses_of([("and", (P, ("not", P)))])[2], (part(0), (P, False), (P, True)))

    def test_as_the_sayings_hold(self):
        """With the truths that parts have by those of the props each clause has one just where the sayings hold."""
        chance = random.Random(5)
        for _ in range(60):
            sayings = [self.chance_saying(chance, 3) for _ in range(chance.randint(1, 3))]
            told = clauses_of(sayings)
            for clause in told:
                self.assertIs(is_clause(clause), True)
            self.assertEqual(len(set(told)), len(told))
            for truths in all_truths([P, Q, R]):
                parts = {}
                for saying in sayings:
                    self.part_truths(saying, sayings, truths, parts)
                held = all(any({**truths, **parts}[sign] == truth for sign, truth in clause) for clause in told)
                self.assertIs(held, all(self.holds(saying, truths) for saying in sayings))

    def chance_saying(self, chance, deep):
        if deep == 0 or chance.random() < 0.2:
            return chance.choice([P, Q, R])
        if chance.random() < 0.3:
            return ("not", self.chance_saying(chance, deep - 1))
        inner = [self.chance_saying(chance, deep - 1) for _ in range(chance.randint(0, 3))]
        return (chance.choice(["and", "or"]), tuple(inner))

    def holds(self, saying, truths):
        if saying[0] == "prop":
            return truths[saying]
        if saying[0] == "not":
            return not self.holds(saying[1], truths)
        return (all if saying[0] == "and" else any)(self.holds(inner, truths) for inner in saying[1])

    def part_truths(self, saying, sayings, truths, parts):
        if saying[0] in ("and", "or"):
            parts[literal_of(saying, sayings)[0]] = self.holds(saying, truths)
        for inner in saying[1:] if saying[0] == "not" else saying[1] if saying[0] != "prop" else ():
            self.part_truths(inner, sayings, truths, parts)

    def test_refused_in_order(self):
        bad = ("in", X, ("name", "x", "set"))
        for thing in wrong_things():
            for sayings in ([thing], [bad, thing], (thing, P)):
                for function, arguments in ((clauses_of, (sayings,)), (literal_of, (P, sayings)),
                                            (literal_of, (1, sayings))):
                    with self.assertRaises(BadValue) as caught:
                        function(*arguments)
                    self.assertEqual(caught.exception.what, "sayings")
            with self.assertRaises(BadValue) as caught:
                literal_of(thing, [P])
            self.assertEqual(caught.exception.what, "saying")
        for function, arguments in ((clauses_of, ([P, bad],)), (literal_of, (P, [P, bad])),
                                    (literal_of, (1, (bad, P)))):
            with self.assertRaises(NoFit) as caught:
                function(*arguments)
            self.assertEqual((caught.exception.what, caught.exception.name), ("name", "x"))
        for thing in (P, "p?", None, {P}, iter([P]), ("and", (P,))):
            with self.assertRaises(BadValue) as caught:
                clauses_of(thing)
            self.assertEqual(caught.exception.what, "sayings")

    def test_what_is_told_is_the_askers_own(self):
        given = [("and", (P, Q))]
        told = clauses_of(given)
        self.assertIs(type(told), list)
        wanted = list(told)
        told.clear()
        self.assertEqual(clauses_of(given), wanted)
        self.assertEqual(clauses_of(tuple(given)), wanted)
        self.assertEqual(given, [("and", (P, Q))])

    def test_many_and_great_sayings(self):
        atoms = [("same", ("times", number, num_of(30)), X) for number in range(120)]
        sayings = [("or", tuple(atoms[at:at + 3])) for at in range(0, 120, 3)]
        self.assertEqual(len(clauses_of(sayings)), 40 * 5)
        self.assertEqual(clauses_of([P] * 1000), [((P, True),)])
        wide = ("and", (("or", (P, Q, R) * 2),) * 6)
        self.assertEqual(len(clauses_of([wide] * 20)), 1 + 3 + 1 + 1 + 1)
        self.assertEqual(len(list(itertools.chain(*clauses_of([wide])))), 4 + 6 + 2 + 2 + 1)


if __name__ == "__main__":
    unittest.main()
