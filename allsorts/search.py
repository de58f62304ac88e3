"""Clauses of numbered signs: what follows at once from them, and the search for a choice.

A literal is twice the number of its sign, and one more where it is with True: so what opposes it is it ^ 1. A clause
is a list of literals, with a number of its own; the first two of it are watched, so that a clause is looked at only
where one of these goes. Of each clause that was learnt it is kept by which others it was, so that those can be told
that are needed where not all can hold.
"""


class Search:
    """Clauses, and the literals that are there: of each level those that were assumed, and what follows at once."""

    def __init__(self, count):
        self.there = []
        self.watched = []
        # Of each sign the number of the clause by which it follows, how often it clashed, and its last truth.
        self.reasons = []
        self.levels = []
        self.weights = []
        self.last = []
        self.clauses = []
        # Of each clause those by which it was learnt: their numbers, and the signs that were there without a level.
        self.sources = []
        self.trail = []
        self.gone = 0
        self.marks = []
        # The number of a clause all of which is opposed with nothing assumed.
        self.torn_by = None
        # The signs, those that clashed most often ahead, and the place of the first one that may be free.
        self.order = []
        self.free_at = 0
        for _ in range(count):
            self.add_sign(False)

    def add_sign(self, truth):
        """The number of one sign more, of which this truth is tried first."""
        self.there.extend([False, False])
        self.watched.extend([[], []])
        self.reasons.append(None)
        self.levels.append(0)
        self.weights.append(0)
        self.last.append(truth)
        self.order.append(len(self.last) - 1)
        return len(self.last) - 1

    def put(self, literal, number):
        """Adds a literal that isn't there, nor what opposes it; `number` is of the clause by which it follows."""
        sign = literal >> 1
        self.there[literal] = True
        self.reasons[sign] = number
        self.levels[sign] = len(self.marks)
        self.trail.append(literal)

    def assume(self, literals):
        """Adds these on a level of their own; False if one of them is opposed by what is there."""
        self.marks.append(len(self.trail))
        for literal in literals:
            if self.there[literal ^ 1]:
                return False
            if not self.there[literal]:
                self.put(literal, None)
        return True

    def back_to(self, level):
        """Takes away whatever is there by the levels above this one."""
        if level >= len(self.marks):
            return
        start = self.marks[level]
        for literal in self.trail[start:]:
            self.there[literal] = False
            self.last[literal >> 1] = literal & 1 == 1
        del self.trail[start:]
        del self.marks[level:]
        self.gone = start
        self.free_at = 0

    def keep(self, clause, numbers, signs):
        """The number of a clause more, which isn't watched yet."""
        self.clauses.append(clause)
        self.sources.append((numbers, signs))
        return len(self.clauses) - 1

    def watch(self, number):
        """Watches the first two literals of a clause of two or more."""
        clause = self.clauses[number]
        self.watched[clause[0]].append(number)
        self.watched[clause[1]].append(number)

    def add_clause(self, literals):
        """The number of a clause more, added while no level is open."""
        number = self.keep([], (), ())
        for literal in literals:
            # What is there now stays there, and what holds whatever its signs are never adds anything.
            if self.there[literal] or literal ^ 1 in literals:
                self.clauses[number] = list(literals)
                return number
        free = [literal for literal in literals if not self.there[literal ^ 1]]
        self.clauses[number] = free + [literal for literal in literals if self.there[literal ^ 1]]
        if len(free) == 0:
            self.torn_by = number if self.torn_by is None else self.torn_by
        elif len(free) == 1:
            self.put(free[0], number)
        else:
            self.watch(number)
        return number

    def add_opposed(self, literals):
        """The number of a clause more, all of which is opposed by what is there, on whatever levels."""
        number = self.keep(sorted(literals, key=lambda one: -self.levels[one >> 1]), (), ())
        if len(literals) > 1:
            self.watch(number)
        return number

    def follow(self):
        """Adds all that follows at once; the number of a clause that is opposed as a whole, or None."""
        while self.gone < len(self.trail):
            opposed = self.trail[self.gone] ^ 1
            self.gone += 1
            number = self.look_at(opposed)
            if number is not None:
                return number
        return None

    def look_at(self, opposed):
        """Looks at the clauses that watch a literal which is opposed now; as follow."""
        there = self.there
        rows = self.watched[opposed]
        kept = []
        self.watched[opposed] = kept
        for at, number in enumerate(rows):
            clause = self.clauses[number]
            if clause[0] == opposed:
                clause[0], clause[1] = clause[1], opposed
            if there[clause[0]]:
                kept.append(number)
            elif len(clause) == 2 or not self.watch_another(number, clause):
                kept.append(number)
                if there[clause[0] ^ 1]:
                    kept.extend(rows[at + 1:])
                    return number
                self.put(clause[0], number)
        return None

    def watch_another(self, number, clause):
        """Watches another literal than the second one, if there is one that isn't opposed."""
        there = self.there
        for at in range(2, len(clause)):
            literal = clause[at]
            if not there[literal ^ 1]:
                clause[at] = clause[1]
                clause[1] = literal
                self.watched[literal].append(number)
                return True
        return False

    def settle(self):
        """What follows at once while no level is open; False where that clashes, then and ever after."""
        if self.torn_by is None:
            self.torn_by = self.follow()
        return self.torn_by is None

    def clashes(self, literals):
        """Whether these, with what is there, clash at once; to be asked while no level is open."""
        if not self.settle():
            return True
        clash = not self.assume(literals) or self.follow() is not None
        self.back_to(0)
        return clash

    def learn(self, number):
        """The clause that follows from a clash: of its literals the first one alone is of the last level.

        With it the numbers of the clauses and the signs without a level that it was learnt by.
        """
        seen = {}
        lower = []
        numbers = [number]
        at = len(self.trail)
        count = 0
        while True:
            for literal in self.clauses[numbers[-1]]:
                sign = literal >> 1
                if sign not in seen:
                    seen[sign] = True
                    if self.levels[sign] > 0:
                        self.weights[sign] += 1
                    if self.levels[sign] == len(self.marks):
                        count += 1
                    elif self.levels[sign] > 0:
                        lower.append(literal)
            at -= 1
            while self.trail[at] >> 1 not in seen:
                at -= 1
            count -= 1
            if count == 0:
                break
            numbers.append(self.reasons[self.trail[at] >> 1])
        rest = [literal for literal in lower if not self.is_spare(literal, seen, numbers)]
        return ([self.trail[at] ^ 1] + rest, numbers, [sign for sign in seen if self.levels[sign] == 0])

    def is_spare(self, literal, seen, numbers):
        """Whether a literal of a clause to be learnt follows from others of it; then by a clause that is added."""
        number = self.reasons[literal >> 1]
        if number is None:
            return False
        for other in self.clauses[number]:
            if other >> 1 not in seen and self.levels[other >> 1] > 0:
                return False
        numbers.append(number)
        for other in self.clauses[number]:
            seen[other >> 1] = True
        return True

    def turn(self, number):
        """Goes back behind a clash, and adds what is learnt of it; False where nothing was assumed for it."""
        level = max([self.levels[literal >> 1] for literal in self.clauses[number]], default=0)
        if level == 0:
            self.torn_by = number
            return False
        self.back_to(level)
        clause, numbers, signs = self.learn(number)
        rest = clause[1:]
        level = max([self.levels[literal >> 1] for literal in rest], default=0)
        if len(rest) > 0:
            # The second one watched must be one of those that go first when the search turns back again.
            at = [self.levels[literal >> 1] for literal in rest].index(level)
            clause = [clause[0], rest[at]] + rest[:at] + rest[at + 1:]
        self.back_to(level)
        learnt = self.keep(clause, numbers, signs)
        if len(clause) > 1:
            self.watch(learnt)
        self.put(clause[0], learnt)
        self.order = sorted(self.order, key=lambda one: -self.weights[one])
        return True

    def free_sign(self):
        """The number of a sign that isn't decided, of those that clashed most often the first one; None if none is."""
        while self.free_at < len(self.order):
            sign = self.order[self.free_at]
            if not self.there[2 * sign] and not self.there[2 * sign + 1]:
                return sign
            self.free_at += 1
        return None

    def fade(self):
        """Lets clashes of old count less than those to come."""
        self.weights = [weight // 2 for weight in self.weights]

    def choose(self):
        """None where a choice was found, which is there then; else the clauses learnt, in order, the last one empty."""
        first = len(self.clauses)
        while self.torn_by is None:
            number = self.follow()
            if number is not None:
                self.turn(number)
                if len(self.clauses) & 63 == 0:
                    self.fade()
            else:
                sign = self.free_sign()
                if sign is None:
                    return None
                self.assume([2 * sign + 1 if self.last[sign] else 2 * sign])
        return [list(clause) for clause in self.clauses[first:]] + [[]]

    def needed(self):
        """The numbers of the clauses, rising, by which the one that is opposed as a whole is so."""
        found = {}
        signs = {}
        numbers = [self.torn_by]
        todo = [literal >> 1 for literal in self.clauses[self.torn_by]]
        while len(numbers) + len(todo) > 0:
            if len(numbers) > 0:
                number = numbers.pop()
                if number not in found:
                    found[number] = True
                    numbers.extend(self.sources[number][0])
                    todo.extend(self.sources[number][1])
            else:
                sign = todo.pop()
                if sign not in signs:
                    signs[sign] = True
                    numbers.append(self.reasons[sign])
                    todo.extend([literal >> 1 for literal in self.clauses[self.reasons[sign]]])
        return sorted(found)
