"""Whether literals that are there can hold by ties, trees and sums together; and if not, by which of them.

Terms are tied as it is told, by what is tied already, where they stand in two trees that are tied, where their bits
are alike, and where all numbers that can be found are the same for both. Each tie that isn't told has its source: the
WORD of a part, literals, and pairs of terms that were tied ahead. So has what clashes.

Where nothing clashes there are numbers by which no two terms are the same that needn't be: of none of these it must be
chosen whether they are. Only what sets are the same isn't found here: it is to be asked for, as `wanted`.
"""

from allsorts.trees import ring_of


class Judge:
    """Some literals, and what comes of them."""

    def __init__(self, table, bounds, literals, is_whole):
        """`is_whole` tells that all literals of bits and of sets are there, and the sets are to be looked at."""
        self.table = table
        self.bounds = bounds
        self.is_whole = is_whole
        self.closure = table.closure.copied()
        # Of each tie that was told, by its number, its source: (WORD, literals, pairs), "told" where it is a literal;
        # and the two terms.
        self.given = []
        self.ends = []
        self.unlikes = []
        self.within = []
        self.bits = {}
        # None, or the source of what clashes.
        self.clash = None
        # The place of the first tie that the bounds don't know, and whether numbers were spread.
        self.passed = 0
        self.is_spread = False
        # Pairs of terms of "num" that were found to be apart, and of those of "set" of which it must be told.
        self.held = []
        self.wanted = []
        self.numbers = {}
        bounds.simplex.unbind()
        for literal in literals:
            self.take(literal)

    def take(self, literal):
        """Takes in what a literal tells."""
        word = self.table.words[literal >> 1]
        truth = literal & 1 == 1
        if word == "same":
            one, other = self.table.atom_places[literal >> 1]
            if truth:
                self.tie(one, other, ("told", (literal,), ()))
                if self.table.sorts[one] == "num":
                    self.bounds.tell(one, other, "zero", (literal,))
            else:
                self.unlikes.append(literal)
        elif word == "most":
            one, other = self.table.atom_places[literal >> 1]
            if truth:
                self.bounds.tell(one, other, "most", (literal,))
            else:
                self.bounds.tell(other, one, "below", (literal,))
        elif word == "in":
            self.within.append(literal)
        elif word == "bit":
            self.bits[(self.table.atom_places[literal >> 1][0], self.table.bits[literal >> 1])] = literal

    def tie(self, one, other, source):
        """Has two terms tied."""
        self.closure.tell(one, other, len(self.given))
        self.given.append(source)
        self.ends.append((one, other))

    def can_hold(self):
        """Whether nothing clashes."""
        self.tie_alike_bits()
        while self.settle_ties() and self.settle_sums():
            if not self.tie_alike():
                return self.clash is None
        return False

    def word_at(self, number):
        """The literals of the four bits of a term, None if they aren't all there."""
        literals = [self.bits.get((number, bit), None) for bit in (0, 1, 2, 3)]
        return None if None in literals else literals

    def tie_alike_bits(self):
        """Ties terms of bits, standing in calls, all bits of which are told alike."""
        first = {}
        for number in self.table.in_calls("bits"):
            literals = self.word_at(number)
            if literals is not None:
                other = first.setdefault(tuple([literal & 1 for literal in literals]), number)
                if other != number:
                    self.tie(other, number, ("bits", tuple(self.word_at(other) + literals), ()))

    def settle_ties(self):
        """Ties all that is tied; whether nothing clashes by that."""
        self.closure.settle()
        while self.clash is None and self.tie_in_trees():
            self.closure.settle()
        if self.clash is None:
            self.clash = self.ring() or self.unlike_tied() or self.opposed_of_one_head()
        return self.clash is None

    def tie_in_trees(self):
        """Ties what stands in two trees that are tied; whether there was any."""
        roots, places = self.closure.roots, self.closure.places
        first = {}
        came = False
        for number in self.table.trees:
            other = first.setdefault(roots[number], number)
            if self.closure.heads[number] != self.closure.heads[other]:
                self.clash = ("trees", (), ((other, number),))
                return False
            for one, two in zip(places[other], places[number]):
                if roots[one] != roots[two]:
                    self.tie(one, two, ("trees", (), ((other, number),)))
                    came = True
        return came

    def ring(self):
        """The source of a tree's standing within itself, None if none does."""
        roots, places = self.closure.roots, self.closure.places
        nodes = {}
        for number in self.table.trees:
            if self.closure.heads[number][0] == "node":
                nodes[roots[number]] = number
        ring = ring_of({root: [roots[place] for place in places[nodes[root]]] for root in nodes})
        if ring is None:
            return None
        pairs = []
        for at, root in enumerate(ring):
            ahead = places[nodes[ring[at - 1]]]
            pairs.append(([place for place in ahead if roots[place] == root][0], nodes[root]))
        return ("trees", (), tuple(pairs))

    def unlike_tied(self):
        """The source of two terms' being tied that are told to be unlike, None if there are none such.

        Of several the one with the shortest way from the one to the other is told.
        """
        found = []
        for literal in self.unlikes:
            one, other = self.table.atom_places[literal >> 1]
            if self.closure.roots[one] == self.closure.roots[other]:
                found.append((len(self.closure.path(one, other)), literal))
            elif self.table.sorts[one] == "bits":
                words = (self.word_at(one), self.word_at(other))
                if None not in words and [bit & 1 for bit in words[0]] == [bit & 1 for bit in words[1]]:
                    return ("bits", tuple([literal] + words[0] + words[1]), ())
        if len(found) == 0:
            return None
        literal = min(found)[1]
        return ("ties", (literal,), (self.table.atom_places[literal >> 1],))

    def opposed_of_one_head(self):
        """The source of an in or a bit with True and one with False, their places tied; None if there are none such."""
        roots = self.closure.roots
        first = {}
        for literal in self.within + list(self.bits.values()):
            sign = literal >> 1
            places = self.table.atom_places[sign]
            other = first.setdefault((self.table.bits[sign],) + tuple([roots[place] for place in places]), literal)
            if other & 1 != literal & 1:
                pairs = tuple(zip(self.table.atom_places[other >> 1], places))
                return ("ties", (other, literal), pairs)
        return None

    def settle_sums(self):
        """Tells the bounds of what was tied; whether numbers can be found."""
        for one, other, why in self.closure.ties[self.passed:]:
            if self.table.sorts[one] == "num" and (why[0] == "within" or self.given[why[1]][0] == "trees"):
                self.bounds.tell(one, other, "zero", (one, other))
        self.passed = len(self.closure.ties)
        if not self.bounds.settle():
            self.clash = self.source_of_sums(self.bounds.sources_of_clash(), ())
            return False
        self.is_spread = False
        self.held = []
        return True

    def source_of_sums(self, sources, literals):
        """The source of what sums tell by these sources and literals."""
        told = [source[0] for source in sources if len(source) == 1]
        return ("sums", tuple(told) + literals, tuple([source for source in sources if len(source) == 2]))

    def tie_alike(self):
        """Ties two terms for which all numbers that can be found are the same; whether there were any.

        It may be told that they are unlike: then that clashes.
        """
        while True:
            self.numbers = {}
            found = self.alike()
            if found is None:
                return False
            one, other, literals = found
            if not self.is_spread:
                self.bounds.spread()
                self.is_spread = True
                continue
            sources = self.bounds.try_apart(one, other, self.held)
            if sources is None:
                self.held.append((one, other))
            elif len(literals) > 0:
                self.clash = self.source_of_sums(sources, literals)
                return False
            else:
                self.tie(one, other, self.source_of_sums(sources, ()))
                return True

    def number_of(self, number):
        """What a term of "num" comes to at the point."""
        if number not in self.numbers:
            self.numbers[number] = self.bounds.number_of(number)
        return self.numbers[number]

    def alike(self):
        """Two terms of "num" that come to the same, but aren't tied, and should not be so by chance.

        With them a tuple of the literal that tells them to be unlike, if there is one. None if there are no such.
        """
        for literal in self.unlikes:
            one, other = self.table.atom_places[literal >> 1]
            if self.table.sorts[one] == "num" and self.number_of(one) == self.number_of(other):
                return (one, other, (literal,))
        return self.alike_tips() or self.alike_numbers_in_sets() or self.alike_calls()

    def alike_tips(self):
        """As alike, of what tips are of."""
        roots, places = self.closure.roots, self.closure.places
        first = {}
        for number in self.table.trees:
            if self.closure.heads[number][0] == "tip":
                place = places[number][0]
                other = first.setdefault(self.number_of(place), place)
                if roots[other] != roots[place]:
                    return (other, place, ())
        return None

    def alike_numbers_in_sets(self):
        """As alike, of numbers of which the one is told to be in a set, the other one not."""
        first = {}
        for literal in self.within:
            one, where = self.table.atom_places[literal >> 1]
            other = first.setdefault((self.number_of(one), self.closure.roots[where]), literal)
            if other & 1 != literal & 1:
                return (self.table.atom_places[other >> 1][0], one, ())
        return None

    def members_of(self, sets):
        """Of each of these sets the numbers that are told to be in it, each once."""
        found = {number: {} for number in sets}
        for literal in self.within if len(found) > 0 else []:
            one, where = self.table.atom_places[literal >> 1]
            if literal & 1 == 1 and where in found:
                found[where][self.number_of(one)] = True
        return {number: tuple(sorted(found[number])) for number in found}

    def alike_calls(self):
        """As alike, of what stands in two calls that aren't tied, but of which all places come to the same."""
        roots, sorts = self.closure.roots, self.table.sorts
        members = self.members_of(self.table.in_calls("set")) if self.is_whole else {}
        first = {}
        self.wanted = []
        for number in self.table.all_calls:
            key = [self.closure.heads[number]]
            for place in self.closure.places[number]:
                if sorts[place] == "num":
                    key.append(self.number_of(place))
                else:
                    key.append(members[place] if place in members else roots[place])
            other = first.setdefault(tuple(key), number)
            if roots[other] != roots[number]:
                pairs = [pair for pair in zip(self.closure.places[other], self.closure.places[number])
                         if roots[pair[0]] != roots[pair[1]]]
                for one, two in pairs:
                    if sorts[one] == "num":
                        return (one, two, ())
                self.wanted.extend(pairs)
        return None

    def unlike_sets(self):
        """The pairs of sets that are told to be unlike, but of which the same numbers are told."""
        pairs = [self.table.atom_places[literal >> 1] for literal in self.unlikes]
        pairs = [pair for pair in pairs if self.table.sorts[pair[0]] == "set"]
        members = self.members_of([number for pair in pairs for number in pair])
        return [pair for pair in pairs if members[pair[0]] == members[pair[1]]]

    def told_by(self, pairs):
        """The numbers of the ties told, by which these pairs are tied."""
        return self.closure.told_for([pair for pair in pairs if pair[0] != pair[1]])

    def literals_of(self, source):
        """All literals on which a source rests, rising."""
        found = {}
        met = {}
        todo = [source]
        while len(todo) > 0:
            _, literals, pairs = todo.pop()
            for literal in literals:
                found[literal] = True
            for number in self.told_by(pairs):
                if number not in met:
                    met[number] = True
                    todo.append(self.given[number])
        return sorted(found)
