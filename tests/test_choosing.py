"""What FOLLOWS AT ONCE, ROWS that REFUTE, and what is CHOSEN; compared with going through all truths."""

import inspect
import itertools
import random
import unittest

from allsorts import choosing
from allsorts.choosing import at_once, check_rows, choose
from allsorts.clauses import clause_of, is_clause, is_literal, opposed
from allsorts.errors import BadText, BadValue
from tests.plain import LETTERS, all_truths
from tests.samples import P, Q, X, Y, wrong_things

R = ("prop", "r")
XY = ("same", X, Y)
YX = ("same", Y, X)


def sign(number):
    return ("prop", LETTERS[number // 26] + LETTERS[number % 26])


def clause(*numbers):
    """A CLAUSE of signs by their numbers, from 1 on; with False those below 0."""
    return clause_of([(sign(abs(number)), number > 0) for number in numbers])


def signs_of(clauses):
    return sorted({sign for row in clauses for sign, _ in row}, key=str)


def plain_at_once(clauses, literals):
    """Goes round over all clauses till nothing comes."""
    there = set(literals)
    came = True
    while came:
        came = False
        if any(opposed(literal) in there for literal in there):
            return None
        for row in clauses:
            free = [literal for literal in row if opposed(literal) not in there]
            if not free:
                return None
            if len(free) == 1 and free[0] not in there:
                there.add(free[0])
                came = True
    return clause_of(list(there))


def plain_rows(clauses, rows):
    ahead = list(clauses)
    for row in rows:
        if plain_at_once(ahead, [opposed(literal) for literal in row]) is not None:
            return False
        ahead.append(row)
    return () in rows


def pigeons(places):
    """One thing more than there are places, each in one, no two in the same."""
    number = lambda thing, place: 1 + thing * places + place
    rows = [clause(*[number(thing, place) for place in range(places)]) for thing in range(places + 1)]
    for place in range(places):
        for one, other in itertools.combinations(range(places + 1), 2):
            rows.append(clause(-number(one, place), -number(other, place)))
    return rows


def other_things():
    """Wrong things, but those that are CLAUSES, none or empty ones alone."""
    return [thing for thing in wrong_things()
            if not (type(thing) in (list, tuple) and all(type(row) is tuple and len(row) == 0 for row in thing))]


def ring(count):
    """Signs in a ring, each unlike the next one: that can't be of an odd number of them."""
    rows = []
    for at in range(count):
        after = (at + 1) % count
        rows += [clause(at + 1, after + 1), clause(-at - 1, -after - 1)]
    return rows


class InterfaceTest(unittest.TestCase):
    def test_arguments_and_files(self):
        for name, arguments in (("at_once", ["clauses", "literals"]), ("check_rows", ["clauses", "rows"]),
                                ("choose", ["clauses"])):
            function = getattr(choosing, name)
            self.assertEqual(function.__module__, "allsorts.choosing")
            self.assertEqual(list(inspect.signature(function).parameters), arguments)

    def test_arguments_by_name(self):
        self.assertEqual(at_once(clauses=[], literals=[(P, True)]), ((P, True),))
        self.assertEqual(at_once(clauses=[((P, True),)]), ((P, True),))
        self.assertIs(check_rows(clauses=[()], rows=((),)), True)
        self.assertEqual(choose(clauses=[]), ("yes", ()))


class AtOnceTest(unittest.TestCase):
    def test_goes_round_till_nothing_comes(self):
        rows = [clause(-at, at + 1) for at in range(1, 39)][::-1]
        self.assertEqual(at_once(rows, [(sign(1), True)]), tuple((sign(at), True) for at in range(1, 40)))
        self.assertEqual(at_once(rows, [(sign(39), False)]), tuple((sign(at), False) for at in range(1, 40)))
        self.assertEqual(at_once(rows, [(sign(20), True)]), tuple((sign(at), True) for at in range(20, 40)))
        self.assertEqual(at_once(rows), ())
        self.assertIsNone(at_once(rows, [(sign(1), True), (sign(39), False)]))

    def test_what_is_there_and_what_follows(self):
        rows = [((("part", 0), False), (P, True)), ((("part", 0), True), (Q, False)),
                ((P, False), (Q, False), (XY, True))]
        self.assertEqual(at_once(rows, [(Q, True)]), ((("part", 0), True), (P, True), (Q, True), (XY, True)))
        self.assertEqual(at_once(rows, ((R, False), (R, False))), ((R, False),))
        self.assertEqual(at_once([clause(1)], ()), clause(1))
        self.assertEqual(at_once([clause(1, 2)], [(sign(1), False)]), clause(-1, 2))
        self.assertEqual(at_once([clause(1, 2)], [(sign(1), True)]), clause(1))

    def test_clashes(self):
        self.assertIsNone(at_once([], [(P, True), (P, False)]))
        self.assertIsNone(at_once([()]))
        self.assertIsNone(at_once([(), ((P, True),)], [(Q, True)]))
        self.assertIsNone(at_once([((P, True),), ((P, False),)]))
        self.assertIsNone(at_once([((P, True),)], [(P, False)]))
        self.assertIsNone(at_once([clause(1, 2)], [(sign(1), False), (sign(2), False)]))
        self.assertIsNone(at_once([clause(-1, 2), clause(-1, -2)], [(sign(1), True)]))

    def test_a_clause_with_a_literal_and_what_opposes_it(self):
        both = ((P, False), (P, True))
        self.assertEqual(at_once([both]), ())
        self.assertEqual(at_once([both], [(P, True)]), ((P, True),))
        self.assertEqual(at_once([((P, False), (P, True), (Q, True))], [(Q, False)]), ((Q, False),))
        self.assertIsNone(at_once([both], [(P, True), (P, False)]))

    def test_as_plain_going_round_tells(self):
        chance = random.Random(7)
        for _ in range(300):
            rows = chance_clauses(chance, chance.randint(1, 7), chance.randint(0, 12))
            some = [(sign(chance.randint(1, 8)), chance.random() < 0.5) for _ in range(chance.randint(0, 3))]
            told = at_once(rows, some)
            self.assertEqual(told, plain_at_once(rows, some))
            self.assertEqual(at_once(tuple(rows), tuple(some)), told)

    def test_refused(self):
        good = [((P, True),)]
        wrong = [((Q, True), (P, True)), [(P, True)], ((P, 1),), ((YX, True),), (P, True), ((P, True), (P, True))]
        for thing in other_things():
            for function, arguments, what in ((at_once, (thing, 0), "clauses"), (at_once, (good, thing), "literals"),
                                              (choose, (thing,), "clauses"), (check_rows, (thing, 0), "clauses")):
                self.refused(what, function, *arguments)
            self.refused("literals", at_once, good, [thing])
            wrong.append(thing)
        for thing in wrong:
            for rows in ([thing], (good[0], thing)):
                self.refused("clauses", at_once, rows, None)
                self.refused("clauses", choose, rows)
                self.refused("clauses", check_rows, rows, ((),))
        for thing in ([YX], [(YX, True)], [(P, 1)], (P, True), [[P, True]], {(P, True)}):
            self.refused("literals", at_once, good, thing)

    def refused(self, what, function, *arguments):
        with self.assertRaises(BadValue) as caught:
            function(*arguments)
        self.assertEqual(caught.exception.what, what)
        self.assertNotIsInstance(caught.exception, BadText)

    def test_nothing_handed_in_is_changed(self):
        rows, some = [clause(1, 2), clause(-1, 2)], [(sign(2), False)]
        at_once(rows, some)
        choose(rows)
        check_rows(rows, ((),))
        self.assertEqual((rows, some), ([clause(1, 2), clause(-1, 2)], [(sign(2), False)]))


def chance_clauses(chance, signs, count, most=3):
    """Clauses by chance over so many signs, some perhaps with a literal and what opposes it."""
    rows = []
    for _ in range(count):
        length = 0 if chance.random() < 0.01 else chance.randint(1, most)
        rows.append(clause(*[chance.choice([1, -1]) * chance.randint(1, signs) for _ in range(length)]))
    return rows


class RowsTest(unittest.TestCase):
    def test_all_clauses_of_two_signs(self):
        rows = [clause(1, 2), clause(1, -2), clause(-1, 2), clause(-1, -2)]
        self.assertIs(check_rows(rows, (clause(1), ())), True)
        self.assertIs(check_rows(tuple(rows), (clause(1), ())), True)
        self.assertIs(check_rows(rows, ((),)), False)
        self.assertIs(check_rows(rows, (clause(1),)), False)
        self.assertIs(check_rows(rows, ()), False)
        self.assertIs(check_rows(rows[1:], (clause(1), ())), False)
        self.assertIs(check_rows(rows, (clause(1), (), clause(2), clause(30))), True)
        self.assertIs(check_rows(rows, (clause(3), clause(1), ())), False)
        self.assertIs(check_rows(rows, (clause(3, -3), clause(1), ())), True)
        self.assertIs(check_rows(rows, (clause(1, 9), clause(1, -9), clause(1), ())), True)
        self.assertIs(check_rows([()], ((),)), True)
        self.assertIs(check_rows([], ((),)), False)
        self.assertIs(check_rows([], (clause(1, -1), ())), False)

    def test_false_of_anything_else(self):
        rows = [clause(1), clause(-1)]
        self.assertIs(check_rows(rows, ((),)), True)
        for thing in other_things() + [[()], ((), None), (None, ()), ((), []), ([], ()), ((), ((P, 1),)),
                                       ((), (P, True)),
                                       ((), ((Q, True), (P, True))), ((), ((YX, True),)), (((P, True), (P, True)), ())]:
            self.assertIs(check_rows(rows, thing), False)
            self.assertIs(check_rows(rows, ((), thing)), False)
            self.assertIs(check_rows(rows, (thing, ())), False)

    def test_as_plain_looking_tells(self):
        chance = random.Random(8)
        told = []
        for _ in range(400):
            rows = chance_clauses(chance, 3, chance.randint(2, 9))
            given = tuple(chance_clauses(chance, 3, chance.randint(0, 3), 2)) + ((),) * chance.randint(0, 1)
            told.append(check_rows(rows, given))
            self.assertIs(told[-1], plain_rows(rows, given))
        self.assertGreater(told.count(True), 20)

    def test_spoilt_rows(self):
        rows = pigeons(3)
        word, told = choose(rows)
        self.assertEqual(word, "no")
        for at in range(len(told)):
            fewer = told[:at] + told[at + 1:]
            self.assertIs(check_rows(rows, fewer), plain_rows(rows, fewer))
            ahead, behind = told[:at], told[at + 1:]
            for other in (ahead + (told[at] + ((sign(500), True),),) + behind, ahead + (told[at][1:],) + behind,
                          ahead + (list(told[at]),) + behind, told + (told[at],), (told[at],) + told):
                wanted = all(is_clause(row) for row in other) and plain_rows(rows, other)
                self.assertIs(check_rows(rows, other), wanted)


class ChooseTest(unittest.TestCase):
    def chosen(self, rows):
        """What is chosen, looked at: the word."""
        told = choose(rows)
        self.assertEqual(choose(tuple(rows)), told)
        self.assertIs(type(told), tuple)
        word, what = told
        if word == "yes":
            self.assertIs(is_clause(what), True)
            self.assertTrue(all(is_literal(literal) for literal in what))
            self.assertEqual(sorted([one for one, _ in what], key=str), signs_of(rows))
            self.assertTrue(all(any(literal in what for literal in row) for row in rows))
        else:
            self.assertEqual(word, "no")
            self.assertIs(check_rows(rows, what), True)
        return word

    def test_ordinary_ones(self):
        self.assertEqual(choose([]), ("yes", ()))
        self.assertEqual(self.chosen([()]), "no")
        self.assertEqual(choose([clause(1)]), ("yes", clause(1)))
        self.assertEqual(self.chosen([clause(1), clause(-1)]), "no")
        self.assertEqual(self.chosen([clause(1, -1)]), "yes")
        self.assertEqual(self.chosen([clause(1, -1, 2), clause(-2)]), "yes")
        self.assertEqual(self.chosen([((("part", 3), True), (XY, False)), ((("part", 3), False),)]), "yes")

    def test_all_clauses_of_three_signs(self):
        rows = [clause(*[sign * number for sign, number in zip(truths, (1, 2, 3))])
                for truths in itertools.product([1, -1], repeat=3)]
        self.assertEqual(self.chosen(rows), "no")
        for at in range(8):
            self.assertEqual(self.chosen(rows[:at] + rows[at + 1:]), "yes")
        every = {clause(*numbers) for numbers in itertools.product([1, -1, 2, -2, 3, -3], repeat=3)}
        self.assertEqual(self.chosen(sorted(every, key=str)), "no")

    def test_as_going_through_all_truths_tells(self):
        chance = random.Random(9)
        words = []
        for _ in range(250):
            rows = chance_clauses(chance, chance.randint(1, 5), chance.randint(0, 22))
            held = any(all(any(truths[one] == truth for one, truth in row) for row in rows)
                       for truths in all_truths(signs_of(rows)))
            words.append(self.chosen(rows))
            self.assertEqual(words[-1], "yes" if held else "no")
        self.assertGreater(min(words.count("yes"), words.count("no")), 50)

    def test_one_thing_more_than_places(self):
        for places in range(1, 6):
            rows = pigeons(places)
            self.assertEqual(self.chosen(rows), "no")
            self.assertEqual(self.chosen(rows[1:]), "yes")

    def test_rings_of_forty_signs(self):
        self.assertEqual(self.chosen(ring(40)), "yes")
        self.assertEqual(self.chosen(ring(39)), "no")
        after = [clause(-at, at % 40 + 1) for at in range(1, 41)]
        self.assertEqual(self.chosen(after), "yes")
        self.assertEqual(self.chosen(after + [clause(7), clause(-31)]), "no")
        self.assertEqual(self.chosen(after + [clause(7, 8), clause(-31, -2)]), "no")

    def test_forty_signs_by_chance(self):
        chance = random.Random(10)
        for count in (120, 160, 170, 180, 220, 260):
            for _ in range(3):
                rows = [clause(*[chance.choice([1, -1]) * number for number in chance.sample(range(1, 41), 3)])
                        for _ in range(count)]
                self.chosen(rows)

    def test_what_is_told_stays(self):
        rows = pigeons(2)
        first = choose(rows)
        at_once(rows, [(sign(1), True)])
        self.assertEqual(choose(rows), first)


if __name__ == "__main__":
    unittest.main()
