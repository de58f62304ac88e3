"""Sayings drawn by chance with a seed: over few names and calls, alone or so that a planted model has them hold."""

from allsorts.sayings import is_saying, terms_of, text_of
from allsorts.values import Model
from tests.plain import LETTERS, SORTS

MOST_TERMS = 60
MOST_NODES = 8


def drawn_value(chance, sort):
    """A VALUE of a sort, of few that there are."""
    if sort == "thing":
        return chance.randint(0, 3)
    if sort == "bits":
        return chance.randint(0, 15)
    if sort == "num":
        return (chance.randint(-4, 4), 1) if chance.random() < 0.7 else (2 * chance.randint(-4, 4) + 1, 2)
    if sort == "set":
        return tuple((number, 1) for number in sorted(chance.sample(range(-2, 4), chance.randint(0, 3))))
    tree = ("tip", drawn_value(chance, "num"))
    for _ in range(chance.randint(0, 2)):
        other = ("tip", drawn_value(chance, "num"))
        tree = ("node", tree, other) if chance.random() < 0.5 else ("node", other, tree)
    return tree


class Drawing:
    """Names and calls by chance, of some sorts, and sayings over them."""

    def __init__(self, chance, names=2, calls=3, sorts=None):
        self.chance = chance
        self.sorts = chance.sample(SORTS, chance.randint(1, 5)) if sorts is None else list(sorts)
        self.ends = {}
        for number, sort in enumerate(SORTS):
            count = chance.randint(1, names)
            self.ends[sort] = [("name", LETTERS[number] + LETTERS[at], sort) for at in range(count)]
        self.named = [term for terms in self.ends.values() for term in terms]
        self.ends["num"] += [("number", number) for number in chance.sample(range(-1, 4), chance.randint(0, 3))]
        if chance.random() < 0.5:
            self.ends["set"].append(("none",))
            self.ends["bits"].append(("bits", chance.randint(0, 15)))
        self.calls = []
        for number in range(chance.randint(0, calls)):
            sorts = tuple(chance.choice(self.sorts) for _ in range(chance.choice([1, 1, 2, 3])))
            self.calls.append(("f" + LETTERS[number], sorts, chance.choice(self.sorts)))

    def term(self, sort, deep):
        chance = self.chance
        if deep == 0 or chance.random() < 0.3:
            return chance.choice(self.ends[sort])
        inner = lambda one: self.term(one, deep - 1)
        calls = [call for call in self.calls if call[2] == sort]
        if calls and chance.random() < 0.6:
            name, sorts, _ = chance.choice(calls)
            return ("call", name, tuple(inner(one) for one in sorts), sort)
        if sort == "thing":
            return chance.choice(self.ends[sort])
        word = chance.choice({"num": ["plus", "times"], "tree": ["tip", "tip", "node"],
                              "set": ["one", "one", "union", "both", "without"],
                              "bits": ["bnot", "band", "bor", "badd"]}[sort])
        if word == "times":
            return ("times", chance.randint(-2, 3), inner("num"))
        if word in ("tip", "one"):
            return (word, inner("num"))
        return (word, inner(sort)) if word == "bnot" else (word, inner(sort), inner(sort))

    def atom(self, deep):
        chance = self.chance
        sort = chance.choice(self.sorts)
        term = lambda one: self.term(one, chance.randint(0, deep))
        share = chance.random()
        if sort == "num" and share < 0.5:
            return ("most", term("num"), term("num"))
        if sort == "set" and share < 0.5:
            return ("in", term("num"), term("set"))
        if sort == "bits" and share < 0.4:
            return ("bit", chance.randint(0, 3), term("bits"))
        if sort == "thing" and share < 0.2:
            return ("prop", chance.choice("pqr"))
        return ("same", term(sort), term(sort))

    def saying(self, deep, terms_deep):
        chance = self.chance
        if deep == 0 or chance.random() < 0.2:
            atom = self.atom(terms_deep)
            return ("not", atom) if chance.random() < 0.4 else atom
        word = chance.choice(["and", "or", "or", "or", "not"])
        if word == "not":
            return ("not", self.saying(deep - 1, terms_deep))
        count = chance.choice([0, 1, 2, 2, 3]) if chance.random() < 0.5 else 2
        return (word, tuple(self.saying(deep - 1, terms_deep) for _ in range(count)))

    def model(self):
        """A MODEL of all names and props, the calls having plain values."""
        rows = [(term[1], term[2], drawn_value(self.chance, term[2])) for term in self.named]
        return Model(rows, props=[prop for prop in "pqr" if self.chance.random() < 0.5])

    def sayings(self, most, deep, terms_deep, model=None):
        """At most so many sayings, no more than is decided; all hold by the model, if there is one."""
        found, texts = [], set()
        wanted = self.chance.randint(max(1, most // 2), most)
        for _ in range(6 * wanted):
            saying = self.saying(self.chance.randint(0, deep), self.chance.randint(0, terms_deep))
            if is_saying(saying) and model is not None and not model.holds(saying):
                saying = ("not", saying)
            if not is_saying(saying):
                continue
            fresh = texts | {text_of(term) for term in terms_of(saying)}
            if len(fresh) <= MOST_TERMS and sum(text.startswith("node(") for text in fresh) <= MOST_NODES:
                found.append(saying)
                texts = fresh
            if len(found) == wanted:
                break
        return found
