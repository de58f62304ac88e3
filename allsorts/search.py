"""Clauses of numbered signs: what follows at once from them, and the search for a choice.

A literal is twice the number of its sign, and one more where it is with True: so what opposes it is it ^ 1. A clause
is a list of literals; the first two of it are watched, so that a clause is looked at only where one of these goes.
"""


class Search:
    """Clauses, and the literals that are there: of each level those that were assumed, and what follows at once."""

    def __init__(self, count):
        self.there = [False] * (2 * count)
        self.watched = [[] for _ in range(2 * count)]
        self.reasons = [None] * count
        self.levels = [0] * count
        self.weights = [0] * count
        self.last = [False] * count
        self.trail = []
        self.gone = 0
        self.marks = []
        self.is_torn = False

    def put(self, literal, reason):
        """Adds a literal that isn't there, nor what opposes it; `reason` is the clause by which it follows."""
        self.there[literal] = True
        self.reasons[literal >> 1] = reason
        self.levels[literal >> 1] = len(self.marks)
        self.trail.append(literal)

    def assume(self, literals):
        """Adds these on a level of their own; False if one of them is opposed by what is there."""
        self.marks.append(len(self.trail))
        for literal in literals:
            if self.there[literal ^ 1]:
                return False
            if not self.there[literal]:
                self.put(literal, None)
        return True

    def back_to(self, level):
        """Takes away whatever is there by the levels above this one."""
        start = self.marks[level]
        for literal in self.trail[start:]:
            self.there[literal] = False
            self.last[literal >> 1] = literal & 1 == 1
        del self.trail[start:]
        del self.marks[level:]
        self.gone = start

    def watch(self, clause):
        """Watches the first two literals of a clause of two or more."""
        self.watched[clause[0]].append(clause)
        self.watched[clause[1]].append(clause)

    def add_clause(self, literals):
        """Adds a clause while no level is open; is_torn is True where it is opposed as a whole."""
        for literal in literals:
            # What is there now stays there, and what holds whatever its signs are never adds anything.
            if self.there[literal] or literal ^ 1 in literals:
                return
        clause = [literal for literal in literals if not self.there[literal ^ 1]]
        if len(clause) == 0:
            self.is_torn = True
        elif len(clause) == 1:
            self.put(clause[0], None)
        else:
            self.watch(clause)

    def follow(self):
        """Adds all that follows at once; a clause that is opposed as a whole, or None."""
        while self.gone < len(self.trail):
            opposed = self.trail[self.gone] ^ 1
            self.gone += 1
            clause = self.look_at(opposed)
            if clause is not None:
                return clause
        return None

    def look_at(self, opposed):
        """Looks at the clauses that watch a literal which is opposed now; as follow."""
        rows = self.watched[opposed]
        kept = []
        self.watched[opposed] = kept
        for at, clause in enumerate(rows):
            if clause[0] == opposed:
                clause[0], clause[1] = clause[1], opposed
            if self.there[clause[0]]:
                kept.append(clause)
            elif not self.watch_another(clause):
                kept.append(clause)
                if self.there[clause[0] ^ 1]:
                    kept.extend(rows[at + 1:])
                    return clause
                self.put(clause[0], clause)
        return None

    def watch_another(self, clause):
        """Watches another literal than the second one, if there is one that isn't opposed."""
        for at in range(2, len(clause)):
            if not self.there[clause[at] ^ 1]:
                clause[1], clause[at] = clause[at], clause[1]
                self.watched[clause[1]].append(clause)
                return True
        return False

    def settle(self):
        """What follows at once while no level is open; False where that clashes, then and ever after."""
        if not self.is_torn and self.follow() is not None:
            self.is_torn = True
        return not self.is_torn

    def clashes(self, literals):
        """Whether these, with what is there, clash at once; to be asked while no level is open."""
        if not self.settle():
            return True
        clash = not self.assume(literals) or self.follow() is not None
        self.back_to(0)
        return clash

    def learn(self, clause):
        """The clause that follows from a clash: of its literals the first one alone is of the last level."""
        seen = {}
        lower = []
        at = len(self.trail)
        count = 0
        while True:
            for literal in clause:
                sign = literal >> 1
                if sign not in seen and self.levels[sign] > 0:
                    seen[sign] = True
                    self.weights[sign] += 1
                    if self.levels[sign] == len(self.marks):
                        count += 1
                    else:
                        lower.append(literal)
            at -= 1
            while self.trail[at] >> 1 not in seen:
                at -= 1
            count -= 1
            if count == 0:
                return [self.trail[at] ^ 1] + lower
            clause = self.reasons[self.trail[at] >> 1]

    def turn_back(self, clause):
        """Goes back behind a clash, and adds the learnt clause, by which something else follows there."""
        rest = clause[1:]
        level = max([self.levels[literal >> 1] for literal in rest], default=0)
        self.back_to(level)
        if len(clause) == 1:
            self.put(clause[0], None)
            return
        # The second one watched must be one of those that go first when the search turns back again.
        at = [self.levels[literal >> 1] for literal in rest].index(level)
        row = [clause[0], rest[at]] + rest[:at] + rest[at + 1:]
        self.watch(row)
        self.put(row[0], row)

    def free_sign(self):
        """The number of a sign that isn't decided, of those that clashed most often the first one; None if none is."""
        best = None
        for sign, weight in enumerate(self.weights):
            if not self.there[2 * sign] and not self.there[2 * sign + 1]:
                if best is None or weight > self.weights[best]:
                    best = sign
        return best

    def fade(self):
        """Lets clashes of old count less than those to come."""
        self.weights = [weight // 2 for weight in self.weights]

    def choose(self):
        """None where a choice was found, which is there then; else the clauses learnt, in order, the last one empty."""
        learnt = []
        if not self.settle():
            return [[]]
        while True:
            clause = self.follow()
            if clause is None:
                sign = self.free_sign()
                if sign is None:
                    return None
                self.assume([2 * sign + 1 if self.last[sign] else 2 * sign])
            elif len(self.marks) == 0:
                return learnt + [[]]
            else:
                learnt.append(self.learn(clause))
                self.turn_back(learnt[-1])
                if len(learnt) & 63 == 0:
                    self.fade()
