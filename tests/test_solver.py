"""A SOLVER led through deeds, beside a plain record of what is due; PARTS that raise, or call it; copies."""

import inspect
import random
import unittest

from allsorts.answers import follows
from allsorts.clauses import clause_of
from allsorts.errors import BadPart, BadText, BadValue, Gone, Nested, NoFit, Nothing, TooGreat
from allsorts.joined import decide
from allsorts.lots import least_lot
from allsorts.sayings import is_saying
from allsorts.solver import Solver
from tests.drawn import Drawing
from tests.looking import look_at_yes, plain_paper
from tests.samples import P, Q, X, Y, Rude, nots, wrong_things

NOT_P = ("not", P)
DEEDS = ("say", "push", "pop", "ask")


def part(word="other", lemmas=lambda atoms: [], refute=lambda literals: None, look=lambda lot, cert: True):
    return (word, lemmas, refute, look)


class Record:
    """What a solver is due to tell, plainly."""

    def __init__(self):
        self.layers = [[]]
        self.told = None
        self.log = []

    def copy(self):
        other = Record()
        other.layers = [list(layer) for layer in self.layers]
        other.told, other.log = self.told, list(self.log)
        return other

    def said(self):
        return [saying for layer in self.layers for saying in layer]

    def deed(self, word, is_done=True):
        number = len(self.log) // 2 + 1
        self.log += [("begun", number, word), ("done" if is_done else "refused", number)]

    def say(self, saying):
        self.layers[-1].append(saying)
        self.told = None
        self.deed("say")

    def push(self):
        self.layers.append([])
        self.deed("push")
        return len(self.layers)

    def pop(self):
        gone = self.layers.pop()
        if gone:
            self.told = None
        self.deed("pop")
        return gone

    def ask(self):
        if self.told is None:
            self.told = decide(self.said())
        self.deed("ask")
        return self.told[0]


class Leading(unittest.TestCase):
    def same(self, solver, record):
        """Fails where the solver isn't as the record."""
        said = record.said()
        self.assertEqual(solver.said(), said)
        self.assertEqual(len(solver), len(said))
        self.assertEqual(solver.depth(), len(record.layers))
        self.assertEqual(solver.log(), record.log)
        self.assertIs(solver.is_busy(), False)
        told = record.told or (None, None, None)
        self.assertEqual(solver.model(), told[1] if told[0] == "yes" else None)
        self.assertEqual(solver.literals(), told[2] if told[0] == "yes" else None)
        self.assertEqual(solver.paper(), told[1] if told[0] == "no" else None)

    def refused(self, error, fields, function, *arguments, **named):
        with self.assertRaises(error) as caught:
            function(*arguments, **named)
        self.assertIs(type(caught.exception), error)
        self.assertNotIsInstance(caught.exception, BadText)
        for field, wanted in fields.items():
            self.assertEqual(getattr(caught.exception, field), wanted)


class DeedsTest(Leading):
    def test_arguments_and_files(self):
        self.assertEqual(Solver.__module__, "allsorts.solver")
        for name, wanted in (("say", ["saying"]), ("push", []), ("pop", []), ("ask", []), ("model", []), ("paper", []),
                             ("literals", []), ("said", []), ("depth", []), ("log", []), ("is_busy", []),
                             ("follows", ["saying"]), ("least", []), ("copy", [])):
            self.assertIn(name, vars(Solver))
            self.assertEqual(list(inspect.signature(vars(Solver)[name]).parameters), ["self"] + wanted)
        more = inspect.signature(Solver).parameters["more"]
        self.assertIs(more.kind, inspect.Parameter.KEYWORD_ONLY)
        self.assertIn("__eq__", vars(Solver))
        self.assertIn("__len__", vars(Solver))
        solver = Solver(more=[])
        self.assertIsNone(solver.say(saying=P))
        self.assertEqual(solver.follows(saying=P)[0], "follows")

    def test_a_new_one(self):
        self.same(Solver(), Record())
        self.assertEqual(Solver().ask(), "yes")
        self.assertIsNone(Solver().least())
        self.assertEqual(Solver(), Solver(more=()))

    def test_layers(self):
        solver, record = Solver(), Record()
        for word, saying in (("say", P), ("push", None), ("push", None), ("say", NOT_P), ("ask", None), ("push", None),
                             ("pop", None), ("ask", None), ("pop", None), ("ask", None), ("say", Q), ("pop", None),
                             ("ask", None)):
            given = [saying] if word == "say" else []
            self.assertEqual(getattr(solver, word)(*given), getattr(record, word)(*given))
            self.same(solver, record)

    def test_pop_of_the_first_layer(self):
        solver, record = Solver(), Record()
        self.refused(Nothing, {"about": "pop"}, solver.pop)
        record.deed("pop", False)
        self.same(solver, record)
        solver.say(P)
        record.say(P)
        solver.ask()
        record.ask()
        self.refused(Nothing, {"about": "pop"}, solver.pop)
        record.deed("pop", False)
        self.same(solver, record)
        self.assertIsInstance(Nothing("pop"), IndexError)

    def test_what_is_refused_changes_nothing_but_the_log(self):
        solver, record = Solver(), Record()
        for saying in (("same", X, Y), P):
            solver.say(saying)
            record.say(saying)
        solver.ask()
        record.ask()
        for thing in wrong_things() + [nots(12, P), X, (P, True)]:
            if not is_saying(thing):
                self.refused(BadValue, {"what": "saying"}, solver.say, thing)
                record.deed("say", False)
        self.refused(NoFit, {"what": "name", "name": "x"}, solver.say, ("in", Y, ("name", "x", "set")))
        record.deed("say", False)
        self.same(solver, record)
        self.refused(NoFit, {"what": "name", "name": "y"}, solver.say, ("same", X, ("call", "f", (("name", "y",
                                                                                                   "set"),),
                                                                                   "num")))
        record.deed("say", False)
        self.same(solver, record)
        solver.push()
        record.push()
        solver.say(("same", ("call", "f", (X,), "num"), X))
        record.say(("same", ("call", "f", (X,), "num"), X))
        self.refused(NoFit, {"what": "call", "name": "f"}, solver.say, ("same", ("call", "f", (X, Y), "num"), X))
        record.deed("say", False)
        self.same(solver, record)
        # With what went nothing has to fit.
        self.assertEqual(solver.pop(), record.pop())
        saying = ("same", ("call", "f", (X, Y), "num"), X)
        self.assertEqual(solver.say(saying), record.say(saying))
        self.same(solver, record)

    def test_too_great(self):
        solver, record = Solver(), Record()
        for _ in range(40):
            solver.say(P)
            record.say(P)
        self.assertEqual(solver.ask(), record.ask())
        solver.push()
        record.push()
        solver.say(Q)
        record.say(Q)
        self.refused(TooGreat, {}, solver.ask)
        record.deed("ask", False)
        self.refused(TooGreat, {}, solver.least)
        self.refused(TooGreat, {}, solver.follows, P)
        self.same(solver, record)
        self.assertEqual(solver.pop(), record.pop())
        self.assertEqual(solver.ask(), record.ask())
        self.refused(TooGreat, {}, solver.follows, P)
        self.same(solver, record)

    def test_drawn_deeds(self):
        counts = {"yes": 0, "no": 0}
        for seed in range(60):
            chance = random.Random(50000 + seed)
            sayings = Drawing(chance).sayings(12, 2, 2)
            pairs = [(Solver(), Record())]
            for _ in range(25):
                at = chance.randrange(len(pairs))
                solver, record = pairs[at]
                word = chance.choice(["say"] * 4 + ["push", "push", "pop", "pop", "ask", "ask", "copy"])
                if word == "copy" and len(pairs) < 3:
                    pairs.append((solver.copy(), record.copy()))
                elif word == "pop" and len(record.layers) == 1:
                    self.refused(Nothing, {"about": "pop"}, solver.pop)
                    record.deed("pop", False)
                elif word != "copy":
                    given = [chance.choice(sayings)] if word == "say" else []
                    told = getattr(solver, word)(*given)
                    self.assertEqual(told, getattr(record, word)(*given))
                    if word == "ask":
                        counts[told] += 1
                for one, due in pairs:
                    self.same(one, due)
                for one, due in pairs:
                    alike = due.layers == record.layers and due.told == record.told
                    self.assertIs(one == solver, alike)
                    self.assertIs(one != solver, not alike)
        self.assertGreater(min(counts.values()), 20)

    def test_as_a_new_one_tells_of_the_same(self):
        for seed in range(30):
            chance = random.Random(51000 + seed)
            sayings = Drawing(chance).sayings(10, 2, 2)
            solver = Solver()
            for _ in range(15):
                solver.push()
                for saying in chance.sample(sayings, min(3, len(sayings))):
                    solver.say(saying)
                if chance.random() < 0.6:
                    solver.ask()
                if chance.random() < 0.6:
                    solver.pop()
                fresh = Solver()
                for saying in solver.said():
                    fresh.say(saying)
                if len(solver) <= 40:
                    self.assertEqual((solver.ask(), solver.model(), solver.paper(), solver.literals()),
                                     (fresh.ask(), fresh.model(), fresh.paper(), fresh.literals()))

    def test_what_is_told_is_the_askers_own(self):
        solver, record = Solver(), Record()
        for saying in (P, Q):
            solver.say(saying)
            record.say(saying)
        solver.push()
        record.push()
        solver.say(NOT_P)
        record.say(NOT_P)
        for told in (solver.said(), solver.log()):
            told.clear()
        self.same(solver, record)
        gone = solver.pop()
        self.assertEqual(gone, record.pop())
        gone.append(Q)
        self.same(solver, record)
        self.assertEqual(type(gone), list)

    def test_follows_and_least_are_no_deeds(self):
        for seed in range(40):
            chance = random.Random(52000 + seed)
            sayings = Drawing(chance).sayings(7, 2, 2)
            solver, record = Solver(), Record()
            for saying in sayings[:-1]:
                solver.say(saying)
                record.say(saying)
            if chance.random() < 0.5:
                solver.ask()
                record.ask()
            self.assertEqual(solver.follows(sayings[-1]), follows(sayings[:-1], sayings[-1]))
            self.assertEqual(solver.least(), least_lot(sayings[:-1]))
            self.same(solver, record)
        for thing in wrong_things():
            if not is_saying(thing):
                self.refused(BadValue, {"what": "saying"}, solver.follows, thing)
        self.refused(BadValue, {"what": "saying"}, solver.follows, nots(11, P))
        self.same(solver, record)
        solver = Solver()
        solver.say(("same", X, Y))
        self.refused(NoFit, {"what": "name", "name": "x"}, solver.follows, ("in", Y, ("name", "x", "set")))

    def test_compared_with_anything_else(self):
        solver = Solver()
        for other in (None, 0, [], (), "Solver", Record(), object()):
            self.assertIs(solver == other, False)
            self.assertIs(solver != other, True)
        # Layers, not only what stands.
        one, other = Solver(), Solver()
        one.say(P)
        other.push()
        other.say(P)
        self.assertIs(one == other, False)
        one, other = Solver(), Solver(more=[part()])
        one.push()
        one.pop()
        self.assertIs(one == other, True)
        one.ask()
        self.assertIs(one == other, False)
        other.ask()
        self.assertIs(one == other, True)


class PartsTest(Leading):
    def test_more(self):
        for thing in wrong_things():
            if not (type(thing) in (list, tuple) and len(thing) == 0):
                self.refused(BadValue, {"what": "more"}, Solver, more=thing)
        for more in ([part("ties")], [part(), part()], [None], part(), [part("say")]):
            self.refused(BadValue, {"what": "more"}, Solver, more=more)

    def test_it_asks_them_once(self):
        asked = []

        def lemmas(atoms):
            asked.append(atoms)
            return [(((P, False), (Q, False)), "both")] if Q in atoms else []

        more = [part("own", lemmas)]
        solver = Solver(more=more)
        more.clear()
        solver.say(P)
        self.assertEqual(asked, [])
        self.assertEqual(solver.ask(), "yes")
        self.assertEqual(len(asked), 1)
        for _ in range(3):
            solver.push()
            self.assertEqual(solver.ask(), "yes")
            solver.pop()
            self.refused(BadValue, {"what": "saying"}, solver.say, None)
            self.assertEqual(solver.ask(), "yes")
            self.assertEqual(solver.copy().ask(), "yes")
            solver.follows(Q)
            solver.least()
        self.assertEqual(len(asked), 1)
        solver.push()
        solver.say(Q)
        self.assertIsNone(solver.model())
        self.assertEqual(solver.ask(), "no")
        self.assertIs(plain_paper(solver.said(), solver.paper(), [part("own", lemmas)]), True)
        self.assertEqual(len(asked), 2)
        # By the parts here alone.
        self.assertIsNone(solver.least())
        self.assertEqual(solver.follows(("prop", "r"))[0], "against")
        self.assertEqual(len(asked), 2)
        other = solver.copy()
        solver.pop()
        self.assertEqual((solver.ask(), other.ask()), ("yes", "no"))
        self.assertEqual(len(asked), 3)
        other.say(("prop", "r"))
        self.assertEqual(other.ask(), "no")
        self.assertEqual(len(asked), 4)

    def test_a_part_that_raises(self):
        class Own(BaseException):
            pass

        for error in (Gone, Own, KeyError, BadValue):
            raising = []

            def refute(literals):
                if raising:
                    raise error("x")

            solver, record = Solver(more=[part("own", refute=refute)]), Record()
            solver.say(P)
            record.say(P)
            raising.append(True)
            for _ in range(2):
                self.refused(error, {}, solver.ask)
                record.deed("ask", False)
                self.same(solver, record)
            raising.clear()
            self.assertEqual(solver.ask(), record.ask())
            self.same(solver, record)
            raising.append(True)
            self.assertEqual(solver.ask(), record.ask())
            solver.push()
            record.push()
            self.assertEqual(solver.ask(), record.ask())
            self.same(solver, record)

    def test_a_bad_part(self):
        answer = [False]
        solver = Solver(more=[part("own", lambda atoms: [(((P, True),), 1)], look=lambda lot, cert: answer[0])])
        record = Record()
        solver.say(Q)
        record.say(Q)
        self.refused(BadPart, {"part": "own"}, solver.ask)
        record.deed("ask", False)
        self.same(solver, record)
        answer[0] = True
        self.refused(BadPart, {"part": "own"}, Solver(more=[part("own", lambda atoms: None)]).ask)
        self.assertEqual(solver.ask(), "yes")

    def test_deeds_amid_an_ask(self):
        met = []

        def amid(*_):
            solver = holder[0]
            self.assertIs(solver.is_busy(), True)
            before = (solver.said(), solver.log(), solver.depth(), solver.model(), solver.paper(), solver.literals())
            for word, given in (("say", [P]), ("say", [None]), ("push", []), ("pop", []), ("ask", [])):
                self.refused(Nested, {}, getattr(solver, word), *given)
                met.append(word)
            self.assertIs(solver.is_busy(), True)
            self.assertEqual(before, (solver.said(), solver.log(), solver.depth(), solver.model(), solver.paper(),
                                      solver.literals()))
            self.assertEqual(solver.log()[-1][0::2], ("begun", "ask"))
            self.assertEqual(solver.follows(Q)[0], "against")
            self.assertIsNone(solver.least())
            copies.append(solver.copy())
            self.assertIs(copies[-1].is_busy(), False)
            self.assertEqual(copies[-1].log(), solver.log())
            copies[-1].push()
            number = len([row for row in solver.log() if row[0] == "begun"]) + 1
            self.assertEqual(copies[-1].log(), solver.log() + [("begun", number, "push"), ("done", number)])

        def lemmas(atoms):
            amid()
            return [(((Q, True), (P, True)), 1)][:0]

        for more in ([part("a", lemmas)], [part("b", refute=amid)], [part("a", lemmas), part("b", refute=amid)]):
            copies, holder, record = [], [Solver(more=more)], Record()
            holder[0].say(P)
            record.say(P)
            self.assertEqual(holder[0].ask(), record.ask())
            self.same(holder[0], record)
            self.assertTrue(copies)
        self.assertEqual(set(met), set(DEEDS))
        self.assertIsInstance(Nested(), RuntimeError)

    def test_a_part_that_lets_nested_through(self):
        holder, calls = [], []

        def lemmas(atoms):
            calls.append(1)
            if len(calls) < 3:
                holder[0].push()
            return []

        solver, record = Solver(more=[part("own", lemmas)]), Record()
        holder.append(solver)
        solver.say(P)
        record.say(P)
        for _ in range(2):
            self.refused(Nested, {}, solver.ask)
            record.deed("ask", False)
            self.same(solver, record)
        self.assertEqual(solver.ask(), record.ask())
        self.same(solver, record)

    def test_another_solver_amid_an_ask(self):
        others = []

        def lemmas(atoms):
            other = Solver()
            other.say(("and", tuple(atoms[:6])))
            others.append((other.ask(), other.log()))
            return []

        solver = Solver(more=[part("own", lemmas)])
        solver.say(("or", (P, Q)))
        self.assertEqual(solver.ask(), "yes")
        self.assertEqual(others[0], ("yes", [("begun", 1, "say"), ("done", 1), ("begun", 2, "ask"), ("done", 2)]))

    def test_certs_of_any_kind(self):
        cert = Rude()
        solver = Solver(more=[part("own", lambda atoms: [(((P, False),), cert)])])
        solver.say(P)
        self.assertEqual(solver.ask(), "no")
        certs = [why[1] for _, why in solver.paper() if why[0] == "own"]
        self.assertIs(certs[0], cert)
        self.assertEqual(solver.literals(), None)

    def test_what_it_tells_with_parts(self):
        for seed in range(30):
            sayings = Drawing(random.Random(53000 + seed)).sayings(5, 2, 2)
            clause = clause_of([(("same", X, X), True)])
            more = [part("own", lambda atoms: [(clause, 1)] if ("same", X, X) in atoms else [])]
            solver = Solver(more=more)
            for saying in sayings:
                solver.say(saying)
            told = decide(sayings, more=more)
            self.assertEqual(solver.ask(), told[0])
            if told[0] == "yes":
                look_at_yes(self, sayings, ("yes", solver.model(), solver.literals()), more)


if __name__ == "__main__":
    unittest.main()
