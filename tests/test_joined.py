"""DECIDED: each "yes" looked at by the points of the document, each "no" by its PAPER; refusals; PARTS handed in."""

import inspect
import itertools
import math
import random
import unittest

from allsorts import joined
from allsorts.clauses import clause_of, clauses_of, opposed, turned_right
from allsorts.errors import BadPart, BadValue, Gone, NoFit, TooGreat
from allsorts.joined import decide
from allsorts.nopaper import check_no
from allsorts.parts import parts_here
from allsorts.reading import read_saying
from allsorts.sayings import atoms_of, is_atom, is_saying, terms_of, text_of
from allsorts.ties import is_lot
from allsorts.values import Model
from tests.drawn import Drawing
from tests.looking import look_at_yes, plain_paper
from tests.samples import P, Q, X, Y, nots, wrong_things

S = ("name", "s", "set")
T = ("name", "t", "set")
U = ("name", "u", "set")
A = ("name", "a", "bits")
B = ("name", "b", "bits")
C = ("name", "c", "bits")


def n(number):
    return ("number", number)


def f(*terms, sort="num", name="f"):
    return ("call", name, terms, sort)


def name(text, sort="num"):
    return ("name", text, sort)


def not_(saying):
    return ("not", saying)


def unlike(*terms):
    return [not_(("same", one, other)) for one, other in itertools.combinations(terms, 2)]


def reduced(point):
    """Fractions in lowest terms."""
    return {one: (over // math.gcd(over, under), under // math.gcd(over, under))
            for one, (over, under) in point.items()}


def packed(sayings):
    """These sayings, six in an and, so that there are fewer."""
    return [("and", tuple(sayings[at:at + 6])) for at in range(0, len(sayings), 6)]


def read(*texts):
    return [read_saying(text) for text in texts]


class Deciding(unittest.TestCase):
    def decided(self, sayings, wanted=None, more=()):
        """What is decided, looked at; True where it is "yes"."""
        given = list(sayings)
        told = decide(sayings, more=more)
        self.assertEqual(list(sayings), given)
        self.assertIs(type(told), tuple)
        if told[0] == "yes":
            look_at_yes(self, sayings, told, more)
        else:
            self.assertEqual(told[0], "no")
            self.assertEqual(len(told), 2)
            self.assertIs(check_no(sayings, told[1], more=more), True)
        if wanted is not None:
            self.assertEqual(told[0], wanted, [text_of(saying) for saying in sayings])
        return told[0] == "yes"


class FewTest(Deciding):
    def test_arguments_and_files(self):
        self.assertEqual(decide.__module__, "allsorts.joined")
        parameters = inspect.signature(decide).parameters
        self.assertEqual(list(parameters), ["sayings", "more"])
        self.assertIs(parameters["more"].kind, inspect.Parameter.KEYWORD_ONLY)
        self.assertEqual(decide(sayings=(), more=[])[0], "yes")
        self.assertTrue(hasattr(joined, "decide"))

    def test_no_sayings(self):
        for sayings in ((), []):
            told = decide(sayings)
            self.assertEqual(told, ("yes", Model(), ()))

    def test_words_alone(self):
        for texts, wanted in ((("p?",), "yes"), (("p?", "not(p?)"), "no"), (("and()",), "yes"), (("or()",), "no"),
                              (("not(and())",), "no"), (("not(or())",), "yes"), (("or(p?,q?)", "not(p?)"), "yes"),
                              (("or(p?,q?)", "not(p?)", "not(q?)"), "no"), (("and(p?,not(p?))",), "no"),
                              (("not(and(p?,q?))", "p?", "q?"), "no"), (("p?", "p?", "p?"), "yes"),
                              (("or(and(p?,q?),and(not(p?),not(q?)))", "p?", "not(q?)"), "no"),
                              (("not(not(not(p?)))", "p?"), "no")):
            self.decided(read(*texts), wanted)

    def test_sums(self):
        for texts, wanted in ((("most(x:num,y:num)", "most(y:num,x:num)", "not(same(x:num,y:num))"), "no"),
                              (("not(most(x:num,y:num))", "not(most(y:num,plus(x:num,1)))"), "no"),
                              (("not(most(x:num,y:num))", "not(most(plus(y:num,1),x:num))"), "yes"),
                              (("same(times(3,x:num),2)", "same(times(2,y:num),x:num)"), "yes"),
                              (("same(times(0,x:num),1)",), "no"), (("same(0,1)",), "no"), (("most(1,0)",), "no"),
                              (("not(same(plus(x:num,1),plus(1,x:num)))",), "no"),
                              (("most(0,x:num)", "most(x:num,0)", "not(same(times(5,x:num),0))"), "no")):
            self.decided(read(*texts), wanted)

    def test_a_name_can_always_be_moved_a_little(self):
        names = [name("x" + letter) for letter in "abcdefgh"]
        bounds = [not_(("most", one, n(0))) for one in names] + [not_(("most", n(1), one)) for one in names]
        self.decided(packed(unlike(*names)) + packed(bounds), "yes")
        calls = [f(one) for one in names]
        bounds = [("most", n(0), one) for one in calls] + [("most", one, n(1)) for one in calls]
        self.decided(packed(unlike(*calls)) + packed(bounds), "yes")
        at_one = [("most", n(0), one) for one in names] + [("most", one, n(0)) for one in names]
        self.decided(packed(unlike(*names)) + packed(at_one), "no")

    def test_numbers_between_tight_bounds_and_unlike(self):
        """Of a planted point bounds are told that it stands right at, or a little off; all numbers are unlike there."""
        for seed in range(120):
            chance = random.Random(11000 + seed)
            names = [name("x" + letter) for letter in "abcde"]
            point = {one: (chance.randint(-9, 9), chance.choice([1, 2, 3])) for one in names}
            model = Model([(one[1], "num", value) for one, value in reduced(point).items()])
            sayings = []
            for _ in range(chance.randint(3, 12)):
                one, other = chance.sample(names, 2)
                less = ("plus", ("times", chance.randint(1, 3), one), ("times", chance.randint(-3, 3), other))
                over, under = model.value(less)
                edge = over // under + chance.choice([0, 0, 0, 1])
                is_most = model.holds(("most", less, n(edge)))
                sayings.append(("most", less, n(edge)) if is_most else ("most", n(edge), less))
            sayings = [saying if chance.random() < 0.8 else not_(saying) for saying in sayings]
            sayings = [saying if model.holds(saying) else not_(saying) for saying in sayings]
            apart = [saying for saying in unlike(*names) if model.holds(saying)]
            apart += [not_(("same", f(saying[1][1]), f(saying[1][2]))) for saying in apart]
            apart = chance.sample(apart, chance.randint(0, len(apart)))
            self.decided(packed(sayings) + packed(apart), "yes")

    def test_fractions_in_sets(self):
        texts = ["same(times(2,x:num),1)", "same(times(3,y:num),1)", "same(times(2,z:num),-3)"]
        texts += ["same(times(5,w:num),-7)"]
        texts += ["in(%s:num,s:set)" % letter for letter in "xyzw"] + ["in(1,s:set)", "not(in(0,s:set))"]
        told = decide(read(*texts))
        self.decided(read(*texts), "yes")
        self.assertTrue({(1, 2), (1, 3), (-3, 2), (-7, 5), (1, 1)} <= set(told[1].value(S)))
        self.decided(read(*texts, "same(f:set(s:set),union(s:set,one(2)))"), "yes")

    def test_calls_whose_places_come_to_the_same(self):
        same_sum = [("same", ("plus", X, Y), n(3)), ("same", ("plus", X, ("times", -1, Y)), n(1))]
        for sort, told in (("num", not_(("same", f(X), f(n(2))))),
                           ("thing", not_(("same", f(X, sort="thing"), f(n(2), sort="thing")))),
                           ("tree", not_(("same", ("tip", f(X)), ("tip", f(n(2)))))),
                           ("set", ("and", (("in", n(5), f(X, sort="set")), not_(("in", n(5), f(n(2), sort="set")))))),
                           ("bits", ("and", (("bit", 2, f(X, sort="bits")), not_(("bit", 2, f(n(2), sort="bits"))))))):
            self.decided(same_sum + [told], "no")
            self.decided(same_sum[1:] + [told], "yes")

    def test_places_of_each_sort(self):
        pairs = {"thing": (name("o", "thing"), name("w", "thing"), []),
                 "num": (X, Y, [("most", X, Y), ("most", Y, X)]),
                 "tree": (("tip", X), ("tip", Y), [("most", X, Y), ("most", Y, X)]),
                 "set": (("union", S, T), ("union", T, S), []),
                 "bits": (("badd", A, B), ("badd", B, A), [])}
        for sort, (one, other, told) in pairs.items():
            if sort == "thing":
                told = [("same", one, other)]
            for result in ("thing", "num", "tree", "set", "bits"):
                calls = (f(Q_TERM, one, sort=result), f(Q_TERM, other, sort=result))
                self.decided(told + [not_(("same", *calls))], "no")
                if told:
                    self.decided(told[1:] + [not_(("same", *calls))], "yes")

    def test_of_one_name_with_other_names(self):
        """Names, calls and props may be called alike."""
        both = [("same", name("f"), n(1)), ("same", f(name("f")), n(2)), ("prop", "f")]
        self.decided(both, "yes")
        self.decided(both + [("same", f(n(1)), n(3))], "no")

    def test_trees(self):
        t, u, w = name("t", "tree"), name("u", "tree"), name("w", "tree")
        node = lambda one, other: ("node", one, other)
        self.decided([("same", t, node(t, u))], "no")
        self.decided([("same", t, node(u, w)), ("same", u, node(w, t))], "no")
        self.decided([("same", node(t, u), node(u, t)), not_(("same", t, u))], "no")
        self.decided([("same", t, ("tip", X)), ("same", t, node(u, w))], "no")
        self.decided([("same", node(("tip", X), t), node(("tip", ("plus", Y, n(1))), u)), ("most", X, Y)], "no")
        self.decided([("same", ("tip", X), ("tip", Y)), not_(("same", f(X, sort="thing"), f(Y, sort="thing")))], "no")
        self.decided(unlike(t, u, w, ("tip", X), ("tip", n(0)), node(t, u)), "yes")
        self.decided([("same", f(X, sort="tree"), node(f(Y, sort="tree"), t)), ("most", X, Y), ("most", Y, X)], "no")

    def test_trees_as_great_as_they_may_be(self):
        trees = [name("t" + letter, "tree") for letter in "abcdefghi"]
        sayings = [("same", trees[at + 1], ("node", trees[at], trees[at])) for at in range(8)]
        self.decided(sayings, "yes")
        self.decided(sayings + [not_(("same", trees[8], ("node", trees[7], trees[7])))], "no")
        self.decided(sayings + [("same", f(X, sort="tree"), trees[8])], "yes")

    def test_sets(self):
        self.decided([not_(("same", S, T)), ("same", ("union", S, T), ("both", S, T))], "no")
        self.decided([not_(("same", ("both", S, ("union", T, U)), ("union", ("both", S, T), ("both", S, U))))], "no")
        self.decided(unlike(S, T, U, ("none",), ("union", S, T)), "yes")
        pair = lambda one, other: ("union", ("one", one), ("one", other))
        z, w = name("z"), name("w")
        told = [("same", pair(X, Y), pair(z, w)), not_(("same", X, z))]
        self.decided(told, "yes")
        self.decided(told + [not_(("same", X, w))], "no")
        self.decided([("same", ("without", S, T), ("one", X)), ("in", X, T)], "no")
        self.decided([("in", X, S), not_(("in", Y, S)), ("most", X, Y), ("most", Y, X)], "no")
        self.decided([("same", f(S), n(1)), ("same", f(T), n(2)), ("same", ("without", S, T), ("none",)),
                      ("same", ("without", T, S), ("none",))], "no")

    def test_numbers_in_few_places(self):
        for count, wanted in ((3, "yes"), (4, "no")):
            names = [name("x" + letter) for letter in "abcd"[:count]]
            three = ("union", ("one", n(1)), ("union", ("one", n(2)), ("one", n(3))))
            self.decided([("in", one, three) for one in names] + unlike(*names), wanted)
            gaps = [("or", (("most", ("plus", one, n(1)), other), ("most", ("plus", other, n(1)), one)))
                    for one, other in itertools.combinations(names, 2)]
            bounds = [("and", (("most", n(0), one), ("most", one, n(2)))) for one in names]
            self.decided(bounds + gaps, wanted)

    def test_bits(self):
        self.decided([not_(("same", ("badd", A, B), ("badd", B, A)))], "no")
        self.decided([not_(("same", ("badd", ("badd", A, B), C), ("badd", A, ("badd", B, C))))], "no")
        self.decided([not_(("same", ("bnot", ("band", A, B)), ("bor", ("bnot", A), ("bnot", B))))], "no")
        self.decided([("bit", 0, ("badd", A, A))], "no")
        self.decided([not_(("same", A, ("bits", value))) for value in range(15)], "yes")
        self.decided([not_(("same", A, ("bits", value))) for value in range(16)], "no")
        self.decided([("same", f(("bits", value)), n(0)) for value in range(16)] + [not_(("same", f(A), n(0)))], "no")
        low = [("same", ("band", one, ("bits", 12)), ("bits", 0)) for one in (A, B, C, name("d", "bits"),
                                                                              name("e", "bits"))]
        names = [saying[1][1] for saying in low]
        self.decided(low + packed(unlike(*names)), "no")
        self.decided(low + packed(unlike(*names[:4])), "yes")


    def test_choices_along_a_long_way(self):
        """Each step by one of two terms: there are more ways than can be gone through one by one."""
        for sort in ("thing", "num", "tree", "set", "bits"):
            sayings = []
            for at in range(16 if sort != "bits" else 6):
                ends = [name("x" + "abcdefghijklmnopq"[at + more], sort) for more in (0, 1)]
                ways = [name(letter + "abcdefghijklmnopq"[at], sort) for letter in "yz"]
                sayings.append(("or", tuple(("and", (("same", ends[0], one), ("same", one, ends[1]))) for one in ways)))
            self.decided(sayings, "yes")
            self.decided(sayings + [not_(("same", name("xa", sort), ends[1]))], "no")
        sayings = []
        for at in range(9):
            ends = [name("x" + "abcdefghij"[at + more]) for more in (0, 1)]
            ways = [name(letter + "abcdefghij"[at]) for letter in "yz"]
            sayings.append(("or", tuple(("and", (("most", ends[0], one), ("most", one, ends[1]))) for one in ways)))
        self.decided(sayings + [not_(("most", ends[1], name("xa")))], "yes")
        self.decided(sayings + [not_(("most", name("xa"), ends[1]))], "no")


Q_TERM = ("name", "q", "thing")


class BoundsTest(Deciding):
    def test_forty_sayings(self):
        forty = [not_(("same", name("x"), n(number))) for number in range(40)]
        self.decided(forty, "yes")
        self.great(forty + [P])
        self.great([P] * 41)
        self.decided([P] * 40, "yes")

    def test_sixty_terms(self):
        names = [name(one + other) for one in "abc" for other in "abcdefghijklmnopqrst"]
        chain = [("and", tuple(("most", names[at], names[at + 1]) for at in range(first, min(first + 6, 59))))
                 for first in range(0, 59, 6)]
        self.decided(chain, "yes")
        self.decided(chain + [not_(("most", names[0], names[59]))], "no")
        # A term that stands there twice, and one that stands within another one.
        self.decided(chain + [("most", names[59], names[3])], "yes")
        self.great(chain + [("most", names[59], X)])
        self.great(chain + [("most", names[59], f(names[0]))])
        sets = [name(one + other, "set") for one in "abc" for other in "abcdefghijklmnopqrst"]
        self.decided([not_(("same", sets[at], sets[at + 1])) for at in range(0, 60, 2)], "yes")
        self.great([not_(("same", sets[at], sets[at + 1])) for at in range(0, 60, 2)] + [("in", n(0), sets[0])])

    def test_eight_nodes(self):
        trees = [name("t" + letter, "tree") for letter in "abcdefghij"]
        eight = [("same", trees[at], ("node", trees[at + 1], trees[9])) for at in range(8)]
        self.decided(eight, "yes")
        self.decided(eight + [not_(("same", trees[0], ("node", trees[1], trees[9])))], "no")
        self.great(eight + [("same", trees[9], ("node", trees[8], trees[8]))])

    def great(self, sayings):
        with self.assertRaises(TooGreat) as caught:
            decide(sayings)
        self.assertIs(type(caught.exception.about), str)
        self.assertIsInstance(caught.exception, OverflowError)
        with self.assertRaises(TooGreat):
            decide(tuple(sayings), more=[part("other")])

    def test_as_great_as_sayings_may_be(self):
        chance = random.Random(50)
        drawing = Drawing(chance, names=4, sorts=["num", "thing", "bits"])
        model = drawing.model()
        atoms = [drawing.atom(0) for _ in range(40)]
        sayings = []
        while len(sayings) < 40:
            tree = chance.choice(atoms)
            for word in ("or", "and", "or"):
                tree = (word, (tree, chance.choice(atoms), not_(chance.choice(atoms)), chance.choice(atoms)))
            saying = ("or", (tree, ("and", tuple(chance.sample(atoms, 6)))))
            sayings.append(saying if model.holds(saying) else not_(saying))
        self.assertTrue(all(is_saying(saying) for saying in sayings))
        self.decided(sayings, "yes")


def part(word="other", lemmas=lambda atoms: [], refute=lambda literals: None, look=lambda lot, cert: True):
    return (word, lemmas, refute, look)


class RefusedTest(unittest.TestCase):
    def refused(self, error, fields, *arguments, **more):
        with self.assertRaises(error) as caught:
            decide(*arguments, **more)
        self.assertIs(type(caught.exception), error)
        for field, wanted in fields.items():
            self.assertEqual(getattr(caught.exception, field), wanted)

    def test_sayings(self):
        for thing in wrong_things():
            if not (type(thing) in (list, tuple) and len(thing) == 0):
                self.refused(BadValue, {"what": "sayings"}, thing)
            if not (is_saying(thing)):
                self.refused(BadValue, {"what": "sayings"}, [P, thing])
        self.refused(BadValue, {"what": "sayings"}, P)
        self.refused(BadValue, {"what": "sayings"}, {P: 1})
        self.refused(BadValue, {"what": "sayings"}, [nots(12, P)])

    def test_in_their_order(self):
        unfit = [("same", X, Y), ("in", X, name("y", "set"))]
        great = [P] * 41
        self.refused(BadValue, {"what": "sayings"}, unfit + great + [None], more=None)
        self.refused(NoFit, {"what": "name", "name": "y"}, unfit + great, more=None)
        self.refused(NoFit, {"what": "call", "name": "g"}, [("same", f(X, name="g"), f(X, Y, name="g"))] + great)
        self.refused(TooGreat, {}, great, more=None)
        self.refused(BadValue, {"what": "more"}, [P], more=None)
        self.refused(BadValue, {"what": "more"}, [P], more=[part(lemmas=None), part()])

    def test_more(self):
        for thing in wrong_things():
            if not (type(thing) in (list, tuple) and len(thing) == 0):
                self.refused(BadValue, {"what": "more"}, [], more=thing)
            if not (type(thing) is tuple and len(thing) == 4 and thing[0] in ("name", "call")):
                self.refused(BadValue, {"what": "more"}, [P], more=(thing,))
        for more in ([part("ties")], [part("bits")], [part("sums"), part()], [part(), part()], part(), {"x": part()},
                     [part("a"), part("b"), part("a")], [part("say")], [part("rows")], [part("apart")],
                     [part("Other")]):
            self.refused(BadValue, {"what": "more"}, [], more=more)
        for more in ([], (), [part("a"), part("b")], (part("abcdefgh"),)):
            self.assertEqual(decide([P], more=more)[0], "yes")


class DrawnTest(Deciding):
    def test_drawn(self):
        counts = {True: 0, False: 0}
        for seed in range(500):
            drawing = Drawing(random.Random(1000 + seed))
            counts[self.decided(drawing.sayings(5, 2, 2))] += 1
        self.assertGreater(min(counts.values()), 100)

    def test_many_drawn(self):
        for seed in range(60):
            drawing = Drawing(random.Random(2000 + seed), names=3)
            self.decided(drawing.sayings(40, 2, 2))

    def test_planted(self):
        for seed in range(200):
            drawing = Drawing(random.Random(3000 + seed), names=3)
            self.decided(drawing.sayings(10, 2, 3, drawing.model()), "yes")
        for seed in range(30):
            drawing = Drawing(random.Random(4000 + seed), names=4)
            self.decided(drawing.sayings(40, 3, 2, drawing.model()), "yes")

    def test_known_not_to_hold_beside_others(self):
        known = [read("most(x:num,y:num)", "not(most(x:num,plus(y:num,1)))"),
                 read("not(same(union(s:set,r:set),union(r:set,s:set)))"),
                 read("same(g:bits(x:num),#3)", "same(g:bits(2),#4)", "same(plus(x:num,x:num),4)"),
                 read("same(t:tree,node(tip(x:num),t:tree))"), read("or(p?,q?)", "not(or(q?,p?))")]
        for seed in range(100):
            chance = random.Random(5000 + seed)
            drawing = Drawing(chance)
            sayings = drawing.sayings(10, 2, 2, drawing.model()) + chance.choice(known)
            chance.shuffle(sayings)
            self.decided(sayings, "no")

    def test_small_ones_by_all_values(self):
        """Of bits, props and things all values are gone through: as many things as there are terms of it do."""
        counts = {True: 0, False: 0}
        for seed in range(150):
            chance = random.Random(6000 + seed)
            drawing = Drawing(chance, names=2, calls=0, sorts=chance.choice([["thing"], ["bits"], ["thing", "bits"]]))
            drawing.ends["bits"] = drawing.ends["bits"][:1] + [("bits", 9)]
            sayings = drawing.sayings(chance.choice([2, 4, 7]), 2, 1)
            terms = {term for saying in sayings for term in terms_of(saying) if term[0] == "name"}
            props = sorted({atom[1] for saying in sayings for atom in atoms_of(saying) if atom[0] == "prop"})
            ranges = [range(16) if term[2] == "bits" else range(4) for term in terms]
            held = False
            for values in itertools.product(*ranges):
                rows = [(term[1], term[2], value) for term, value in zip(terms, values)]
                for count in range(len(props) + 1):
                    for some in itertools.combinations(props, count):
                        model = Model(rows, props=some)
                        held = held or all(model.holds(saying) for saying in sayings)
            counts[held] += 1
            self.decided(sayings, "yes" if held else "no")
        self.assertGreater(min(counts.values()), 20)

    def test_said_otherwise(self):
        for seed in range(150):
            chance = random.Random(7000 + seed)
            sayings = Drawing(chance).sayings(7, 2, 2)
            wanted = "yes" if self.decided(sayings) else "no"
            shuffled = chance.sample(sayings, len(sayings))
            self.decided(shuffled + shuffled[:2], wanted)
            self.decided([renamed(saying) for saying in sayings], wanted)
            doubled = [nots(2, saying) for saying in sayings]
            self.decided([saying for saying in doubled if is_saying(saying)], wanted if all(
                is_saying(saying) for saying in doubled) else None)
            self.decided([turned(saying) for saying in sayings], wanted)
            apart = [inner for saying in sayings for inner in (saying[1] if saying[0] == "and" else [saying])]
            self.decided(apart, wanted)
            great = [greater(saying) for saying in sayings]
            if all(is_saying(saying) for saying in great):
                self.decided(great, wanted)

    def test_the_same_each_time(self):
        for seed in range(60):
            sayings = Drawing(random.Random(8000 + seed)).sayings(8, 2, 2)
            told = decide(sayings)
            self.assertEqual(decide(tuple(sayings)), told)
            self.assertEqual(decide(sayings=list(sayings), more=()), told)
            self.assertEqual(decide(sayings, more=[]), told)


def changed(saying, change):
    """A saying with something done to each tuple in it, from within."""
    if type(saying) is not tuple:
        return saying
    return change(tuple(changed(inner, change) for inner in saying))


def renamed(saying):
    def change(thing):
        if thing and thing[0] in ("name", "prop", "call"):
            return (thing[0], thing[1][::-1] + "z") + thing[2:]
        return thing
    return changed(saying, change)


def turned(saying):
    return changed(saying, lambda thing: ("same", thing[2], thing[1]) if thing and thing[0] == "same" else thing)


def greater(saying):
    """With all numbers, but those by which is multiplied, as a hundred thousand times what they are."""
    return changed(saying, lambda thing: ("number", 100000 * thing[1]) if thing and thing[0] == "number" else thing)


class MoreTest(Deciding):
    """PARTS that are handed in."""

    def injective(self, atoms):
        """LEMMAS by which f of two is the same only of the same."""
        self.asked.append(atoms)
        calls = list(dict.fromkeys(term for atom in atoms for term in terms_of(atom) if term[:2] == ("call", "f")))
        told = []
        for one, other in itertools.combinations(calls, 2):
            told.append((clause_of([(turned_right(("same", one, other)), False),
                                    (turned_right(("same", one[2][0], other[2][0])), True)]), [one, other]))
        return told

    def setUp(self):
        self.asked = []
        self.looked = []

    def part(self):
        def look(lot, cert):
            self.looked.append((lot, cert))
            return is_lot(lot) and type(cert) is list
        return part("inject", self.injective, look=look)

    def test_lemmas(self):
        sayings = [("same", f(X), f(Y)), ("most", X, n(3)), not_(("most", Y, n(3)))]
        self.decided(sayings, "yes")
        told = decide(sayings, more=[self.part()])
        self.assertEqual(told[0], "no")
        self.assertIs(check_no(sayings, told[1], more=[self.part()]), True)
        self.assertIs(plain_paper(sayings, told[1], [self.part()]), True)
        self.assertIs(check_no(sayings, told[1]), False)
        self.assertIn("inject", [why[0] for _, why in told[1]])
        self.decided(sayings[:2], "yes", [self.part()])

    def test_what_is_handed_in(self):
        sayings = [not_(("same", S, T)), not_(("same", f(X), f(n(1)))), not_(("same", ("union", S, T), U)),
                   not_(("same", f(S, name="g"), f(T, name="g")))]
        refuted = []

        def refute(literals):
            refuted.append(literals)

        more = [(self.part()[0], self.part()[1], refute, self.part()[3])]
        told = decide(sayings, more=more)
        self.assertEqual(told[0], "yes")
        look_at_yes(self, sayings, told, more)
        own = {term for saying in sayings for term in terms_of(saying)}
        self.assertTrue(self.asked and refuted)
        for atoms in self.asked:
            self.assertIs(type(atoms), list)
            self.assertTrue(all(is_atom(atom) and set(terms_of(atom)) <= own for atom in atoms))
            self.assertEqual(len(set(atoms)), len(atoms))
        for before, after in zip(self.asked, self.asked[1:]):
            self.assertTrue(set(before) < set(after))
        atoms = {atom for saying in sayings for atom in atoms_of(saying)}
        self.assertTrue({turned_right(atom) for atom in atoms} <= set(self.asked[0]))
        for literals in refuted:
            self.assertIs(type(literals), tuple)
            self.assertIs(is_lot(literals), True)
            self.assertTrue(all(set(terms_of(atom)) <= own for atom, _ in literals))
            self.assertTrue({atom for atom, _ in literals} <= set(self.asked[-1]))
        for lot, cert in self.looked:
            self.assertIs(is_lot(lot), True)
            self.assertIs(type(cert), list)
        # All that was told of what has no number apart was handed in.
        lot = tuple(row for row in told[2] if row[0][0] != "part" and set(terms_of(row[0])) <= own)
        self.assertEqual(refuted[-1], lot)

    def test_what_is_decided_for_them(self):
        """Whether those are the same at one place of calls, such calls, what tips are of, numbers in sets; all bits."""
        z, w, v, t = name("z"), name("w"), name("v"), name("r", "tree")
        sayings = [("most", f(X), f(Y)), ("in", z, S), ("same", T, ("one", w)), ("same", t, ("tip", X)),
                   not_(("same", name("q", "tree"), ("tip", v))), ("bit", 1, A)]
        wanted = [("same", X, Y), ("same", f(X), f(Y)), ("same", X, v), ("same", z, w)]
        wanted += [("in", number, where) for number in (z, w) for where in (S, T, ("one", w))]
        wanted += [("bit", at, A) for at in range(4)]
        refuted = []
        told = decide(sayings, more=[part(refute=refuted.append)])
        self.assertEqual(told[0], "yes")
        for atom in wanted:
            self.assertIn(turned_right(atom), [atom for atom, _ in refuted[-1]])

    def test_of_what_is_in_no_saying(self):
        """No set has two numbers; f is the same only of the same: told by REFUTE alone."""
        def lone(literals):
            for one, other in itertools.combinations([row for row in literals if row[0][0] == "in" and row[1]], 2):
                unlike_numbers = (turned_right(("same", one[0][1], other[0][1])), False)
                if one[0][2] == other[0][2] and unlike_numbers in literals:
                    return (clause_of([one, other, unlike_numbers]), "lone")
            return None

        def inject(literals):
            for atom, truth in literals:
                if truth and atom[0] == "same" and [term[:2] for term in atom[1:]] == [("call", "f")] * 2:
                    against = (turned_right(("same", atom[1][2][0], atom[2][2][0])), False)
                    if against in literals:
                        return (clause_of([(atom, truth), against]), "inject")
            return None

        more = [part("lone", refute=lone, look=lambda lot, cert: cert == "lone"),
                part("inject", refute=inject, look=lambda lot, cert: cert == "inject")]
        sayings = [("most", f(X), f(Y)), ("most", f(Y), f(X)), ("most", X, n(1)), not_(("most", Y, n(1)))]
        self.decided(sayings, "yes")
        self.decided(sayings, "no", more)
        self.decided(sayings[1:], "yes", more)
        sayings = [("in", X, S), ("in", Y, T), ("same", ("union", S, T), ("union", U, ("none",))), not_(("most", X, Y))]
        self.decided(sayings, "yes")
        self.decided(sayings, "no", more)
        self.decided(sayings[:3], "yes", more)

    def test_refute(self):
        """At most two things."""
        def refute(literals):
            apart = {atom[1:] for atom, truth in literals if not truth and atom[0] == "same"}
            terms = sorted({term for pair in apart for term in pair})
            for three in itertools.combinations(terms, 3):
                if set(itertools.combinations(three, 2)) <= apart:
                    return (clause_of([(("same",) + pair, False) for pair in itertools.combinations(three, 2)]), three)
            return None

        cert_of = lambda lot: len(lot) == 3 and all(not truth for _, truth in lot)
        two = part("two", refute=refute, look=lambda lot, cert: cert_of(lot) and type(cert) is tuple)
        things = [name("o" + letter, "thing") for letter in "abcd"]
        self.decided(unlike(*things[:3]), "yes")
        self.decided(unlike(*things[:3]), "no", [two])
        self.decided(unlike(*things[:2]), "yes", [two])
        choice = [("or", tuple(unlike(*things)[at:at + 3])) for at in range(0, 6, 3)]
        self.decided(choice, "yes", [two])
        self.decided(choice + unlike(*things[:3]), "no", [two])
        self.decided(choice + unlike(*things[:2]), "yes", [two, part("other")])

    def test_atoms_that_lemmas_bring(self):
        """A lemma may bring a prop, and a same that is in no saying; each is asked again then."""
        def lemmas(atoms):
            self.asked.append(atoms)
            told = [(((("prop", "fresh"), True), (("prop", "other"), True)), None)]
            if ("prop", "fresh") in atoms:
                told.append((((("same", X, Y), True),), None))
            if ("same", X, Y) in atoms:
                told.append((((("most", X, X), False), (("prop", "p"), True)), None))
            return told

        sayings = [P, ("same", f(X), n(1)), ("same", f(Y), n(1))]
        self.assertEqual(decide(sayings, more=[part("bring", lemmas)])[0], "yes")
        self.assertIn(("most", X, X), self.asked[-1])
        self.decided([not_(P), ("same", f(X), f(Y))], "no", [part("bring", lemmas)])
        self.decided([P, not_(("same", f(X), f(Y)))], "no", [part("bring", lemmas)])
        self.assertGreater(len(self.asked), 5)

    def test_a_cert_is_told_on_as_it_is(self):
        cert = [object(), {"x": []}]
        told = decide([P, Q], more=[part("own", lambda atoms: [(((P, False), (Q, False)), cert)])])
        self.assertEqual(told[0], "no")
        certs = [why[1] for _, why in told[1] if why[0] == "own"]
        self.assertEqual(len(certs), 1)
        self.assertIs(certs[0], cert)
        told = decide([P, Q], more=[part("own", refute=lambda literals: (((P, True), (Q, True)), cert))])
        self.assertIs([why[1] for _, why in told[1] if why[0] == "own"][0], cert)

    def bad(self, more, sayings=(P, ("same", f(X), f(Y)), not_(("same", S, T)))):
        with self.assertRaises(BadPart) as caught:
            decide(sayings, more=more)
        self.assertIs(type(caught.exception), BadPart)
        self.assertIsInstance(caught.exception, TypeError)
        self.assertEqual(caught.exception.part, more[-1][0])

    def test_bad_lemmas(self):
        good = (((P, True),), 1)
        for told in (None, (), (good,), True, "", {}, {good}, [None], [good, None], [()], [good[:1]], [good + (1,)],
                     [list(good)], [((P, True), 1)], [([(P, True)], 1)], [(((P, 1),), 1)], [(((("part", 0), True),),
                                                                                             1)],
                     [(((Q, True), (P, True)), 1)], [(((P, False), (P, True)), 1)],
                     [(((("same", Y, X), True),), 1)], [(((("most", X, n(1)), True),), 1)],
                     [(((("most", X, f(n(1))), True),), 1)], [(((("in", name("n"), S), True),), 1)],
                     [(((("same", S, name("r", "set")), True),), 1)], [(((("same", name("x", "set"), S), True),), 1)],
                     [(((("same", ("union", S, T), S), True),), 1)], [iter([good])]):
            self.bad([part("lems", lambda atoms: told)])
            self.bad([part("first"), part("lems", lambda atoms: told)])
        for thing in wrong_things():
            if not (type(thing) is list and len(thing) == 0):
                self.bad([part("lems", lambda atoms: thing)])
            if not (type(thing) is tuple and len(thing) == 0):
                self.bad([part("lems", lambda atoms: [(thing, 1)])])

    def test_what_look_does_not_let_by(self):
        for answer in (False, None, 1, 1.0, "True", [True], 0, Model()):
            self.bad([part("look", lambda atoms: [(((P, True),), 1)], look=lambda lot, cert: answer)])
            self.bad([part("look", refute=lambda literals: (literals[:1], 1), look=lambda lot, cert: answer)])

    def test_bad_refutes(self):
        for told in ((), [], True, False, 0, "no", ((), 1, 1), [((P, True),), 1], (((P, True),),), ([(P, True)], 1),
                     (((P, False),), 1), (((Q, True),), 1), ((P, True), 1), (((("part", 0), True),), 1),
                     (((P, True), (P, True)), 1), ((("same", X, Y), False), 1), (None, 1), (((("most", X, Y), True),),
                                                                                            1)):
            self.bad([part("refs", refute=lambda literals: told)])
        for thing in wrong_things():
            self.bad([part("refs", refute=lambda literals: thing if thing is not None else 0)])
            if not (type(thing) is tuple and len(thing) == 0):
                self.bad([part("refs", refute=lambda literals: (thing, 1))])

    def test_what_a_part_raises(self):
        class Own(Exception):
            pass

        def gone(*_):
            raise Gone("away")

        def own(*_):
            raise Own

        sayings = [P, not_(("same", S, T))]
        for raising, error in ((gone, Gone), (own, Own)):
            for more in ([part(lemmas=raising)], [part(refute=raising)], [part(), part("b", refute=raising)],
                         [part(lemmas=lambda atoms: [(((P, True),), 1)], look=raising)]):
                wanted = decide(sayings)
                with self.assertRaises(error) as caught:
                    decide(sayings, more=more)
                self.assertIs(type(caught.exception), error)
                self.assertEqual(decide(sayings), wanted)
        self.assertEqual(Gone().why, "")

    def test_parts_are_called_by_their_places(self):
        class Places:
            def __init__(self, told):
                self.told = told

            def __call__(self, *args):
                return self.told(*args)

        cert = {}
        told = decide([P], more=[part("own", Places(lambda atoms: [(((P, False),), cert)]),
                                      Places(lambda literals: None),
                                      Places(lambda lot, found: found is cert and lot == ((P, True),)))])
        self.assertEqual(told[0], "no")

    def test_what_is_handed_in_stays(self):
        atoms_met = []

        def spoil(atoms):
            atoms_met.append(list(atoms))
            atoms.clear()
            atoms.append(None)
            return []

        sayings, more = [P, ("same", X, Y)], [part("spoil", spoil)]
        told = decide(sayings, more=more)
        self.assertEqual((sayings, more), ([P, ("same", X, Y)], [part("spoil", spoil)][:0] + more))
        self.assertEqual(decide(sayings, more=more), told)
        self.assertEqual(atoms_met[0], atoms_met[-1])

    def test_beside_drawn_sayings(self):
        for seed in range(60):
            sayings = Drawing(random.Random(9000 + seed)).sayings(5, 2, 2)
            wanted = decide(sayings)[0]
            self.asked = []
            self.decided(sayings, "no" if wanted == "no" else None, [self.part(), part("other")])
            for before, after in zip(self.asked, self.asked[1:]):
                self.assertTrue(set(before) < set(after) or set(after) <= set(before))

    def test_no_sayings(self):
        self.assertEqual(decide([], more=[part()])[0], "yes")
        self.assertEqual(decide([], more=[part("own", lambda atoms: [((), 1)])])[0], "no")
        self.assertEqual(decide([], more=[part("own", refute=lambda literals: ((), 1))])[0], "no")


class ClausesTest(Deciding):
    def test_rows_of_each_part(self):
        met = set()
        for seed in range(300):
            sayings = Drawing(random.Random(10000 + seed)).sayings(6, 2, 2)
            told = decide(sayings)
            if told[0] == "no":
                self.assertIs(plain_paper(sayings, told[1]), True)
                met |= {why[0] for _, why in told[1]}
                for clause, why in told[1]:
                    if why[0] in ("ties", "sums", "trees", "sets", "bits"):
                        self.assertIs(is_lot(tuple(opposed(literal) for literal in clause)), True)
        self.assertEqual(met, {"say", "rows", "apart"} | {part[0] for part in parts_here()})

    def test_clauses_of_stay_told(self):
        sayings = [("or", (P, ("and", (Q, ("same", X, Y))))), not_(P)]
        told = decide(sayings)
        self.assertEqual({sign for clause in clauses_of(sayings) for sign, _ in clause} - {sign for sign, _ in told[2]},
                         set())


if __name__ == "__main__":
    unittest.main()
