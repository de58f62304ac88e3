"""The clauses of one question, as they come: those of its sayings, and what holds always of the atoms that are there.

Of each clause it is kept why it stands there. Sets that may come to be compared make one realm: all numbers told of
one of them are told of each of it.
"""

from allsorts.bits import BITS, rows_of, terms_of_made
from allsorts.search import Search
from allsorts.sets import CLAUSES, CLAUSES_OF_ITSELF, is_made
from allsorts.table import Table


LETTERS = "abcdefghijklmnopqrstuvwxyz"


def root_of(roots, number):
    """By whom a number goes."""
    while roots[number] != number:
        number = roots[number]
    return number


def link(roots, one, other):
    """Has two numbers go by the same one."""
    first, second = root_of(roots, one), root_of(roots, other)
    roots[max(first, second)] = min(first, second)


def letters_of(number):
    """Small letters, others for each number."""
    text = LETTERS[number - number // 26 * 26]
    return text if number < 26 else text + letters_of(number // 26 - 1)


class Growth:
    """A table of signs, the clauses over them, and why these stand there."""

    def __init__(self, is_wide):
        """`is_wide` has all told that anyone may ask for: what is the same at one place, what is in which set."""
        self.table = Table()
        self.search = Search(0)
        self.is_wide = is_wide
        # Of each clause of the search why it stands there; what was learnt has no row.
        self.whys = {}
        # The pair of sets of each number apart, and the NAMES that are in use.
        self.pairs_apart = {}
        self.used = {}
        # How many terms of bits and how many signs were gone through, and of which pairs it was told.
        self.bits_done = 0
        self.signs_done = 0
        self.told_of = {}

    def sign(self, key, thing):
        """The number of a sign, by its key."""
        number = self.table.sign(key, thing)
        self.add_signs()
        return number

    def atom(self, word, bit, places):
        """The number of an atom's sign."""
        number = self.table.atom(word, bit, places)
        self.add_signs()
        return number

    def add_signs(self):
        """Has the search know all signs of the table; of each the truth is told that is tried first."""
        while len(self.search.last) < len(self.table.sign_keys):
            sign = len(self.search.last)
            truth = False
            if self.table.words[sign] == "bit":
                # Names that aren't told of begin with other bits each.
                number = self.table.atom_places[sign][0]
                truth = self.table.words_of_bits.index(number) >> self.table.bits[sign] & 1 == 1
            self.search.add_sign(truth)

    def put_clause(self, literals, why):
        """Adds a clause."""
        once = {}
        for literal in literals:
            once[literal] = True
        self.whys[self.search.add_clause(list(once))] = why

    def add_pairs(self, pairs, why):
        """Adds a clause of pairs (key, LITERAL)."""
        self.put_clause([2 * self.sign(key[:3], literal[0]) + (1 if literal[1] else 0) for key, literal in pairs], why)

    def grow(self):
        """Adds what holds always, till nothing comes any more."""
        if self.is_wide:
            self.ask_widely()
        while self.bits_done < len(self.table.words_of_bits) or self.signs_done < len(self.table.sign_keys):
            while self.bits_done < len(self.table.words_of_bits):
                self.tell_bits(self.table.words_of_bits[self.bits_done])
                self.bits_done += 1
            while self.signs_done < len(self.table.sign_keys):
                self.tell_same_bits(self.signs_done)
                self.signs_done += 1
            self.tell_sets()

    def tell_bits(self, number):
        """Adds what the bits of a term are."""
        term = self.table.closure.terms[number]
        for bit in BITS:
            self.atom("bit", bit, (number,))
        if term[0] in ("name", "call"):
            return
        numbers = [self.table.term(one) for one in terms_of_made(term)]
        for row in rows_of(term):
            literals = [2 * self.atom("bit", bit, (numbers[which],)) + (1 if truth else 0) for which, bit, truth in row]
            if not any([literal ^ 1 in literals for literal in literals]):
                self.put_clause(literals, ("bits", term))

    def tell_same_bits(self, sign):
        """Adds that two terms of bits have the same bits, if the sign tells that they are the same."""
        if self.table.words[sign] == "same":
            one, other = self.table.atom_places[sign]
            if self.table.sorts[one] == "bits" and one != other:
                for bit in BITS:
                    self.add_alike(sign, self.atom("bit", bit, (one,)), self.atom("bit", bit, (other,)))

    def add_alike(self, same, one, other):
        """Adds that two signs have one truth where `same` has True."""
        self.put_clause([2 * same, 2 * one, 2 * other + 1], ("ties",))
        self.put_clause([2 * same, 2 * one + 1, 2 * other], ("ties",))

    def realms(self):
        """By the number of one of them, lists of the sets that may be compared, and of the numbers told of these."""
        table = self.table
        roots = {number: number for number in table.sets}
        first = {}
        numbers = []
        for number in table.sets:
            if is_made(table.closure.terms[number]):
                for place in table.closure.places[number]:
                    if table.sorts[place] == "set":
                        link(roots, number, place)
                    else:
                        numbers.append((place, number))
        for call in table.all_calls:
            for at, place in enumerate((call,) + table.closure.places[call]):
                if table.sorts[place] == "set":
                    link(roots, place, first.setdefault((table.closure.heads[call], at), place))
        for sign, word in enumerate(table.words):
            if word == "in":
                numbers.append(table.atom_places[sign])
            elif word == "same" and table.sorts[table.atom_places[sign][0]] == "set":
                link(roots, table.atom_places[sign][0], table.atom_places[sign][1])
        for number in table.sets if self.is_wide else []:
            link(roots, table.sets[0], number)
        realms = {}
        for number in table.sets:
            realms.setdefault(root_of(roots, number), ([], {}))[0].append(number)
        for number, where in numbers:
            realms[root_of(roots, where)][1][number] = True
        return realms

    def tell_sets(self):
        """Adds of each number of a realm what it is to be in a set of it, and in two that are the same."""
        if len(self.table.sets) == 0:
            return
        sames = [(sign, self.table.atom_places[sign]) for sign, word in enumerate(self.table.words)
                 if word == "same" and self.table.sorts[self.table.atom_places[sign][0]] == "set"]
        for sets, numbers in self.realms().values():
            for number in sorted(numbers):
                for where in sets:
                    if (number, where) not in self.told_of:
                        self.told_of[(number, where)] = True
                        self.tell_in(number, where)
            for sign, (one, other) in sames:
                if one in sets and one != other:
                    self.tell_same_sets(sign, one, other, sorted(numbers))

    def tell_same_sets(self, sign, one, other, numbers):
        """Adds of these numbers that they are in two sets alike, if the sign tells that these are the same."""
        for number in numbers:
            if (number, -1 - sign) not in self.told_of:
                self.told_of[(number, -1 - sign)] = True
                self.add_alike(sign, self.atom("in", 0, (number, one)), self.atom("in", 0, (number, other)))

    def tell_in(self, number, where):
        """Adds what it is for a number to be in a set, by the word of that."""
        itself = self.atom("in", 0, (number, where))
        made = self.table.closure.terms[where]
        if not is_made(made):
            return
        places = self.table.closure.places[where]
        others = [self.atom("in", 0, (number, place)) for place in places] if made[0] != "one" else []
        if made[0] == "one" and places[0] != number:
            others = [self.atom("same", 0, (number, places[0]))]
        for truths in CLAUSES_OF_ITSELF if made[0] == "one" and len(others) == 0 else CLAUSES[made[0]]:
            literals = [2 * other + (1 if truth else 0) for other, truth in zip(others, truths) if truth is not None]
            literals.append(2 * itself + (1 if truths[2] else 0))
            if not any([literal ^ 1 in literals for literal in literals]):
                self.put_clause(literals, ("sets", made))

    def fresh_name(self):
        """A NAME that isn't in use."""
        number = 0
        name = "n"
        while name in self.used:
            name = "n" + letters_of(number)
            number += 1
        self.used[name] = True
        return name

    def split_sets(self, pairs):
        """Has two sets of each of these pairs differ by a number apart, unless they are the same.

        No set comes twice: a number apart for the one pair may do for the other one, too.
        """
        met = {}
        for one, other in pairs:
            if one not in met and other not in met:
                met[one] = met[other] = True
                same = self.atom("same", 0, (one, other))
                name = self.fresh_name()
                self.pairs_apart[name] = (one, other)
                number = self.table.term(("name", name, "num"))
                ins = [self.atom("in", 0, (number, place)) for place in (one, other)]
                self.put_clause([2 * same + 1, 2 * ins[0] + 1, 2 * ins[1] + 1], ("apart", name))
                self.put_clause([2 * same + 1, 2 * ins[0], 2 * ins[1]], ("apart", name))

    def is_apart(self, number):
        """Whether a term is a number apart."""
        term = self.table.closure.terms[number]
        return term[0] == "name" and term[2] == "num" and term[1] in self.pairs_apart

    def has_apart(self, sign):
        """Whether a sign tells of a number apart; none stands within another term."""
        return any([self.is_apart(place) for place in self.table.atom_places[sign]])

    def ask_widely(self):
        """Brings the atoms same of what stands at one place of two calls, of two such, of what tips and sets are of."""
        table = self.table
        lots = {}
        for call in table.all_calls:
            for at, place in enumerate((call,) + table.closure.places[call]):
                lots.setdefault((table.closure.heads[call], at), {})[place] = True
        for number in table.trees + table.sets:
            word = table.closure.heads[number][0]
            if word in ("tip", "one"):
                lots.setdefault(word, {})[table.closure.places[number][0]] = True
        for sign, word in enumerate(table.words):
            if word == "in" and not self.has_apart(sign):
                lots.setdefault("one", {})[table.atom_places[sign][0]] = True
        for lot in lots.values():
            once = sorted(lot)
            for at, one in enumerate(once):
                for other in once[:at]:
                    self.atom("same", 0, (other, one))
