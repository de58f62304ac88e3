"""Things that the tests hand in: terms and sayings of a wanted size or depth, and things of every wrong kind."""

X = ("name", "x", "num")
Y = ("name", "y", "num")
P = ("prop", "p")
Q = ("prop", "q")

# One term of each word, with its sort, its text, how deep it is, and of how many parts.
TERMS = (
    (("name", "o", "thing"), "thing", "o:thing", 1, 1),
    (("name", "x", "num"), "num", "x:num", 1, 1),
    (("name", "t", "tree"), "tree", "t:tree", 1, 1),
    (("name", "s", "set"), "set", "s:set", 1, 1),
    (("name", "abcxyz", "bits"), "bits", "abcxyz:bits", 1, 1),
    (("call", "f", (X,), "thing"), "thing", "f:thing(x:num)", 2, 2),
    (("call", "f", (X, ("number", 3)), "num"), "num", "f:num(x:num,3)", 2, 3),
    (("call", "g", (("bits", 7), ("none",), ("tip", X)), "set"), "set", "g:set(#7,none(),tip(x:num))", 3, 5),
    (("number", 0), "num", "0", 1, 1),
    (("number", -12), "num", "-12", 1, 1),
    (("number", 10 ** 6), "num", "1000000", 1, 1),
    (("number", -10 ** 6), "num", "-1000000", 1, 1),
    (("plus", X, ("number", 1)), "num", "plus(x:num,1)", 2, 3),
    (("times", -2, X), "num", "times(-2,x:num)", 2, 2),
    (("times", 10 ** 6, X), "num", "times(1000000,x:num)", 2, 2),
    (("times", -10 ** 6, X), "num", "times(-1000000,x:num)", 2, 2),
    (("tip", X), "tree", "tip(x:num)", 2, 2),
    (("node", ("tip", X), ("name", "t", "tree")), "tree", "node(tip(x:num),t:tree)", 3, 4),
    (("none",), "set", "none()", 1, 1),
    (("one", ("number", 5)), "set", "one(5)", 2, 2),
    (("union", ("none",), ("one", X)), "set", "union(none(),one(x:num))", 3, 4),
    (("both", ("none",), ("name", "s", "set")), "set", "both(none(),s:set)", 2, 3),
    (("without", ("name", "s", "set"), ("none",)), "set", "without(s:set,none())", 2, 3),
    (("bits", 0), "bits", "#0", 1, 1),
    (("bits", 15), "bits", "#15", 1, 1),
    (("band", ("bits", 3), ("name", "b", "bits")), "bits", "band(#3,b:bits)", 2, 3),
    (("bor", ("bits", 3), ("bits", 3)), "bits", "bor(#3,#3)", 2, 3),
    (("badd", ("bits", 9), ("bits", 8)), "bits", "badd(#9,#8)", 2, 3),
    (("bnot", ("bits", 10)), "bits", "bnot(#10)", 2, 2),
)

# One atom of each word, with its text, how deep it is, and of how many parts.
ATOMS = (
    (("prop", "p"), "p?", 1, 1),
    (("prop", "abcxyz"), "abcxyz?", 1, 1),
    (("same", X, ("number", 3)), "same(x:num,3)", 2, 3),
    (("same", ("name", "o", "thing"), ("name", "o", "thing")), "same(o:thing,o:thing)", 2, 3),
    (("same", ("tip", X), ("name", "t", "tree")), "same(tip(x:num),t:tree)", 3, 4),
    (("same", ("none",), ("one", X)), "same(none(),one(x:num))", 3, 4),
    (("same", ("bits", 1), ("name", "b", "bits")), "same(#1,b:bits)", 2, 3),
    (("most", X, ("number", 3)), "most(x:num,3)", 2, 3),
    (("in", X, ("one", Y)), "in(x:num,one(y:num))", 3, 4),
    (("bit", 0, ("bits", 7)), "bit(0,#7)", 2, 2),
    (("bit", 3, ("bnot", ("name", "b", "bits"))), "bit(3,bnot(b:bits))", 3, 3),
)

# Sayings that are no atoms, likewise.
SAYINGS = (
    (("not", P), "not(p?)", 2, 2),
    (("not", ("not", ("most", X, Y))), "not(not(most(x:num,y:num)))", 4, 5),
    (("and", ()), "and()", 1, 1),
    (("or", ()), "or()", 1, 1),
    (("and", (P,)), "and(p?)", 2, 2),
    (("or", (P, Q, P)), "or(p?,q?,p?)", 2, 4),
    (("and", (P, ("not", ("most", X, ("number", 3))))), "and(p?,not(most(x:num,3)))", 4, 6),
    (("or", (("and", ()), ("or", (P, ("bit", 1, ("bits", 2)))))), "or(and(),or(p?,bit(1,#2)))", 4, 6),
    (("and", (P, Q, P, Q, P, Q)), "and(p?,q?,p?,q?,p?,q?)", 2, 7),
)

TERM_WORDS = ("name", "call", "number", "plus", "times", "tip", "node", "none", "one", "union", "both", "without",
              "bits", "band", "bor", "badd", "bnot")
SAYING_WORDS = ("prop", "same", "most", "in", "bit", "not", "and", "or")


def num_of(size):
    """A term of "num" of that many parts, as flat as it can be by plus, times and numbers."""
    if size == 1:
        return ("number", 1)
    if size == 2:
        return ("times", 2, ("number", 1))
    return ("plus", num_of((size - 1) // 2), num_of(size - 1 - (size - 1) // 2))


def chain_of(deep):
    """A term of "num" that is so deep, of as many parts."""
    term = ("name", "x", "num")
    for _ in range(deep - 1):
        term = ("times", 2, term)
    return term


def nots(count, saying):
    """A saying within so many nots."""
    for _ in range(count):
        saying = ("not", saying)
    return saying


class Rude:
    """An object that can be asked nothing: whatever is asked ends in an error of its own."""

    def refuse(self, *_):
        raise ZeroDivisionError("asked")

    __eq__ = __ne__ = __lt__ = __gt__ = __le__ = __ge__ = __hash__ = __len__ = __bool__ = refuse
    __iter__ = __getitem__ = __contains__ = __str__ = __repr__ = __int__ = __index__ = refuse


def deep_things():
    """Tuples thousands deep, by each word and by none."""
    wraps = [lambda thing, word=word: (word, thing) for word in ("not", "tip", "bnot", "one", "times", "bit", "prop")]
    wraps += [lambda thing, word=word: (word, (thing,)) for word in ("and", "or")]
    wraps += [lambda thing, word=word: (word, thing, thing) for word in ("plus", "node", "same", "in", "most")]
    wraps += [lambda thing: ("call", "f", (thing,), "num"), lambda thing: ("times", 1, thing)]
    wraps += [lambda thing: (thing,), lambda thing: [thing], lambda thing: (thing, "x", "num")]
    return [wrapped(wrap, 5000) for wrap in wraps]


def wrapped(wrap, count):
    thing = ("number", 1)
    for _ in range(count):
        thing = wrap(thing)
    return thing


def shared_things():
    """Things in which the same thing stands more often than can be counted, most of them not too deep to be walked."""
    pairs = ("plus", "node", "union", "both", "without", "band", "bor", "badd", "same", "most", "in")
    wraps = [lambda thing, word=word: (word, thing, thing) for word in pairs]
    wraps += [lambda thing: ("call", "f", (thing, thing, thing), "num"), lambda thing: (thing, thing)]
    things = [wrapped(wrap, 40) for wrap in wraps]
    for word in ("and", "or"):
        for count in (7, 10, 40):
            thing = ("prop", "p")
            for _ in range(count):
                thing = (word, (thing,) * 6)
            things.append(thing)
    return things


def things_within_themselves():
    """Lists and dicts that are within themselves, and tuples in which such stand."""
    ring = []
    ring.append(ring)
    knot = {}
    knot["not"] = knot
    term = ["plus"]
    term.extend([term, term])
    hold = []
    hold.append(("and", (hold,)))
    tied = []
    tied.append(("not", tied))
    return [ring, (ring,), ("not", ring), ("and", ring), ("and", (ring, ring)), knot, ("not", knot), term,
            ("tip", term), hold, hold[0], tied, tied[0], ("name", ring, "num"), ("name", "x", ring), (ring, "x", "num"),
            ("number", ring), ("call", "f", ring, "num"), ("call", "f", (ring,), "num"), ("same", ring, ring)]


def odd_things():
    """Things of every other wrong kind."""
    rude = Rude()
    rooms = [("name", "x", "num", "num"), ("name", "x"), ("name",), ("number",), ("number", 1, 1), ("none", ()),
             ("and",), ("and", (), ()), ("not",), ("not", P, P), ("prop",), ("prop", "p", "p"), ()]
    rudes = [rude, (rude,), (rude, "x", "num"), ("name", rude, "num"), ("name", "x", rude), ("number", rude),
             ("bits", rude), ("times", rude, X), ("times", 2, rude), ("plus", X, rude), ("not", rude), ("and", rude),
             ("and", (rude,)), ("bit", rude, ("bits", 1)), ("prop", rude), ("call", "f", rude, "num"),
             ("call", rude, (X,), "num"), ("call", "f", (X,), rude), [rude], {"x": rude}]
    plain = [None, True, False, 0, 1, -1, 10 ** 900, 0.5, float("nan"), 1j, "", "x", "and", "x" * 10 ** 6, b"name",
             [], {}, set(), frozenset(), object(), Exception("x"), Rude, len, lambda: None, range(3), Ellipsis,
             NotImplemented, iter(()), (None,), (True,), (1,), ("",), ("x" * 10 ** 6,), ([],), ((),),
             ("name" * 10 ** 5,),
             ["name", "x", "num"], ["prop", "p"], ["and", ()], {"name": "x"}, {"name", "x"}, bytearray(b"x"),
             ("Name", "x", "num"), (b"name", "x", "num"), (b"prop", "p"), ("part", 0), (0, "x", "num"),
             (("name", "x", "num"),), ("and", (P,) * 10 ** 5), ("call", "f", (X,) * 10 ** 5, "num")]
    return plain + rooms + rudes


def wrong_things():
    """All of them: none is a name, a term or a saying, but "x", "and" and the like that are names."""
    return odd_things() + deep_things() + shared_things() + things_within_themselves()


def tree_of(deep):
    """A VALUE of "tree" that is so deep, of twice as many tips and nodes, less one."""
    tree = ("tip", (0, 1))
    for _ in range(deep - 1):
        tree = ("node", ("tip", (1, 2)), tree)
    return tree


def full_tree(deep):
    """A tree of 2 ** deep - 1 tips and nodes, both sides of each node the very same thing."""
    tree = ("tip", (3, 1))
    for _ in range(deep - 1):
        tree = ("node", tree, tree)
    return tree


def wrong_values():
    """Things that are no VALUE of any SORT."""
    ring = []
    ring.append(("node", ring, ring))
    trees = [("tip",), ("tip", 0), ("tip", (0, 2)), ("tip", [0, 1]), ["tip", (0, 1)], ("tip", (0, 1), (0, 1)),
             ("tip", (True, 1)),
             ("node", ("tip", (0, 1))), ("node", ("tip", (0, 1)), ("tip", (2, 4))), ("node", ("tip", (0, 1)), None),
             ("node",) + (("tip", (0, 1)),) * 3, tree_of(41), full_tree(10), full_tree(40), ring, ring[0],
             ("leaf", (0, 1)), ("leaf", ("tip", (0, 1)), ("tip", (0, 1))), ("node", ring, ("tip", (0, 1)))]
    numbers = [(1,), (1, 1, 1), (1, 0), (1, -1), (-1, -2), (2, 4), (0, 2), (0, -1), (True, 1), (1, True), (1.0, 1),
               ("1", "1"),
               [1, 2], (1, None), (10, 5)]
    sets = [((1, 1), (1, 1)), ((2, 1), (1, 1)), ((1, 2), (1, 3)), ((0, 1), 1), ((0, 1), None), ((0, 2),), [(0, 1)],
            ((0, 1), [1, 1]), ((-1, 2), (-2, 3)), ((0, 1),) * 10 ** 5]
    return trees + numbers + sets + [-1, True, False, None, 1.0, "0", b"0"]
