"""The MODEL of literals that nothing refutes: a VALUE for each lot of tied terms.

Lots of things are numbered, and so are the tips that stand for trees of which nothing is told, so that no two lots
have one VALUE that needn't. Numbers, sets and bits are as they were judged.
"""

from math import lcm

from allsorts.values import Model


class Making:
    """The VALUES of the terms of a table, by a judge that found nothing amiss."""

    def __init__(self, table, judge):
        self.table = table
        self.judge = judge
        self.roots = judge.closure.roots
        self.members = judge.members_of(table.sets)
        self.things = {}
        # Of each lot of trees a tip or a node in it, and of each its VALUE.
        self.built = {self.roots[number]: number for number in table.trees}
        self.trees = {}
        self.tips = {}
        self.last_tip = 0
        for number in table.trees:
            if judge.closure.heads[number][0] == "tip":
                self.tips[judge.number_of(judge.closure.places[number][0])] = True

    def value(self, number):
        """The VALUE of a term."""
        sort = self.table.sorts[number]
        if sort == "num":
            return self.judge.number_of(number)
        if sort == "set":
            return self.rising(self.members[number])
        if sort == "bits":
            return sum([(literal & 1) << bit for bit, literal in enumerate(self.judge.word_at(number))])
        if sort == "thing":
            return self.things.setdefault(self.roots[number], len(self.things))
        return self.tree(self.roots[number])

    def rising(self, numbers):
        """FRACTIONS, rising."""
        common = 1
        for _, under in numbers:
            common = lcm(common, under)
        return tuple(sorted(numbers, key=lambda one: one[0] * (common // one[1])))

    def tree(self, root):
        """The VALUE of a lot of trees."""
        if root not in self.trees:
            if root not in self.built:
                self.trees[root] = ("tip", self.fresh_tip())
            else:
                number = self.built[root]
                places = self.judge.closure.places[number]
                if self.judge.closure.heads[number][0] == "tip":
                    self.trees[root] = ("tip", self.judge.number_of(places[0]))
                else:
                    self.trees[root] = ("node",) + tuple([self.tree(self.roots[place]) for place in places])
        return self.trees[root]

    def fresh_tip(self):
        """A FRACTION that no other tip is of."""
        while (self.last_tip, 1) in self.tips:
            self.last_tip += 1
        self.tips[(self.last_tip, 1)] = True
        return (self.last_tip, 1)

    def model(self, props):
        """The MODEL, in which these props hold."""
        names = []
        calls = {}
        for number, term in enumerate(self.table.closure.terms):
            if term[0] == "name":
                names.append((term[1], term[2], self.value(number)))
            elif term[0] == "call":
                places = self.judge.closure.places[number]
                # Two calls whose places come to the same are tied: the row of the first one is that of both.
                key = (term[1],) + tuple([self.roots_or_worth(place) for place in places])
                if key not in calls:
                    values = tuple([(self.table.sorts[place], self.value(place)) for place in places])
                    calls[key] = (term[1], values, term[3], self.value(number))
        return Model(names, calls=list(calls.values()), props=props)

    def roots_or_worth(self, number):
        """What tells VALUES of one SORT apart; that of a tree is too deep for it."""
        return self.roots[number] if self.table.sorts[number] == "tree" else self.value(number)


def made_model(table, judge, literals):
    """The MODEL of these literals, by a judge that found nothing amiss."""
    props = [table.signs[literal >> 1][1] for literal in literals
             if literal & 1 == 1 and table.words[literal >> 1] == "prop"]
    return Making(table, judge).model(props)
