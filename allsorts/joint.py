"""All parts joined: the search for literals that nothing refutes.

The search chooses literals by the clauses; the judge tells of those chosen whether they can hold together; the parts
that are handed in are asked last. Whatever clashes comes back to the search as a clause.
"""

from allsorts.bounds import Bounds
from allsorts.clauses import lot_keys
from allsorts.cuts import Cuts
from allsorts.growth import Growth
from allsorts.judge import Judge
from allsorts.outside import lemmas_told, refuted
from allsorts.sayings import uses_in_order


# How many times it clashes ere it is cut.
MANY = 60


class Joint:
    """The search for one question; `numbering` is that of its sayings."""

    def __init__(self, sayings, numbering, more):
        self.more = more
        self.growth = Growth(len(more) > 0)
        self.table = self.growth.table
        self.search = self.growth.search
        self.bounds = Bounds(self.table)
        self.judge = None
        self.cuts = Cuts()
        self.clashed = 0
        # Of how many atoms those were asked that are handed in.
        self.asked = None
        for saying in sayings:
            for what, name, _ in uses_in_order(saying):
                if what == "name":
                    self.growth.used[name] = True
        for row in numbering.keyed_rows():
            self.growth.add_pairs(row, ("say",))
        self.grow()

    def grow(self):
        """Adds all that holds always, till nothing comes any more; to be asked while no level is open."""
        self.growth.grow()
        if len(self.more) == 0:
            return
        atoms = self.atoms_outside()
        while self.asked is None or self.asked < len(atoms):
            self.asked = len(atoms)
            for part in self.more:
                for keys, clause, cert in lemmas_told(part, atoms):
                    self.growth.add_pairs(list(zip(keys, clause)), ("part", part[0], cert))
            self.growth.grow()
            atoms = self.atoms_outside()

    def signs_outside(self):
        """The signs of atoms that may be handed to others, rising."""
        signs = [sign for sign, word in enumerate(self.table.words)
                 if word != "part" and not self.growth.has_apart(sign)]
        return sorted(signs, key=lambda sign: self.table.sign_keys[sign])

    def atoms_outside(self):
        """The atoms that may be handed to others, sorted by TEXTS."""
        return [self.table.signs[sign] for sign in self.signs_outside()]

    def can_hold(self):
        """Whether there are literals that nothing refutes: they are there then, and the judge is theirs."""
        while self.search.torn_by is None:
            number = self.search.follow()
            if number is not None:
                self.search.turn(number)
                if len(self.search.clauses) & 63 == 0:
                    self.search.fade()
                continue
            sign = self.search.free_sign()
            if sign is not None:
                self.search.assume([self.first_choice(sign)])
            elif self.is_upheld():
                return True
        return False

    def first_choice(self, sign):
        """The literal of a free sign that is tried first."""
        if self.table.words[sign] == "most":
            one, other = self.table.atom_places[sign]
            return 2 * sign + (1 if self.bounds.seems_at_most(one, other) else 0)
        return 2 * sign + (1 if self.search.last[sign] else 0)

    def is_upheld(self):
        """Whether nothing refutes the literals that are there, all being decided; else there is something new."""
        self.judge = Judge(self.table, self.bounds, self.cuts.ahead(self.search.trail), True)
        if not self.judge.can_hold():
            self.clashed += 1
            if self.clashed > MANY and self.has_cut():
                return False
            literals = self.judge.literals_of(self.judge.clash)
            self.refute([literal ^ 1 for literal in literals], ("judged",))
            return False
        pairs = self.judge.wanted + self.judge.unlike_sets()
        if len(pairs) > 0:
            self.search.back_to(0)
            self.growth.split_sets(pairs)
            self.grow()
            return False
        return not self.is_refuted_outside()

    def has_cut(self):
        """Whether what clashes was cut in two clauses, that are new, with an atom between them; or is less now."""
        found = self.cuts.cut(self.judge, self.search.there)
        if found is None:
            return False
        word, places, ahead, behind = found
        if word == "":
            self.refute([literal ^ 1 for literal in ahead], ("judged",))
            return True
        self.search.back_to(0)
        between = 2 * self.growth.atom(word, 0, places) + 1
        self.cuts.signs[between >> 1] = True
        self.growth.put_clause([literal ^ 1 for literal in ahead] + [between], ("judged",))
        self.growth.put_clause([literal ^ 1 for literal in behind] + [between ^ 1], ("judged",))
        self.grow()
        return True

    def refute(self, literals, why):
        """Turns back by a clause all of which is opposed."""
        number = self.search.add_opposed(literals)
        self.growth.whys[number] = why
        self.search.turn(number)

    def is_refuted_outside(self):
        """Whether a part that is handed in refutes the literals that are there."""
        told = tuple([(self.table.signs[sign], self.search.there[2 * sign + 1]) for sign in self.signs_outside()])
        for part in self.more:
            found = refuted(part, told)
            if found is not None:
                lot, cert = found
                pairs = list(zip(lot_keys(lot), lot))
                literals = [2 * self.growth.sign(key[:3], literal[0]) + (0 if literal[1] else 1)
                            for key, literal in pairs]
                self.refute(literals, ("part", part[0], cert))
                return True
        return False
