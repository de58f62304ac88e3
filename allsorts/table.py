"""The terms and the signs of one question, by numbers.

A sign is an atom, TURNED RIGHT, or a part; a literal of it is a number, too, as the search counts them. Words and
terms of a sign stand beside it, so that nobody has to look into the tuples.
"""

from allsorts.closure import Closure
from allsorts.sayings import atom_terms
from allsorts.terms import in_brackets, term_sort, term_text


class Table:
    """Numbers for terms and signs, as they come."""

    def __init__(self):
        self.closure = Closure(False)
        self.texts = []
        self.sorts = []
        # The numbers of tips and nodes, of sets, of terms of bits, and of calls.
        self.trees = []
        self.sets = []
        self.words_of_bits = []
        self.all_calls = []
        # Of each sign its key, itself, its word, its number if it is of a bit, and its terms' numbers.
        self.sign_keys = []
        self.signs = []
        self.words = []
        self.bits = []
        self.atom_places = []
        self.by_key = {}
        self.by_places = {}

    def term(self, term):
        """The number of a term, which is taken in with all that is in it."""
        number = self.closure.take(term)
        while len(self.texts) < len(self.closure.terms):
            self.list_term(len(self.texts))
        return number

    def list_term(self, number):
        """Lists what is asked of a term that was taken in."""
        term = self.closure.terms[number]
        self.texts.append(term_text(term))
        self.sorts.append(term_sort(term))
        if term[0] == "call":
            self.all_calls.append(number)
        if term[0] in ("tip", "node"):
            self.trees.append(number)
        if self.sorts[number] == "set":
            self.sets.append(number)
        if self.sorts[number] == "bits":
            self.words_of_bits.append(number)

    def sign(self, key, thing):
        """The number of the sign with this key."""
        if key not in self.by_key:
            terms = () if thing[0] == "part" else atom_terms(thing)
            places = tuple([self.term(term) for term in terms])
            self.by_key[key] = len(self.sign_keys)
            self.sign_keys.append(key)
            self.signs.append(thing)
            self.words.append(thing[0])
            self.bits.append(thing[1] if thing[0] == "bit" else 0)
            self.atom_places.append(places)
        return self.by_key[key]

    def atom(self, word, bit, places):
        """The number of the sign of an atom by its word, its number if it is of a bit, and its terms' numbers."""
        if word == "same" and self.texts[places[0]] > self.texts[places[1]]:
            places = (places[1], places[0])
        known = (word, bit) + places
        if known not in self.by_places:
            numbers = (bit,) if word == "bit" else ()
            text = in_brackets(word, numbers, [self.texts[place] for place in places])
            terms = tuple([self.closure.terms[place] for place in places])
            self.by_places[known] = self.sign((1, 0, text), (word,) + numbers + terms)
        return self.by_places[known]

    def literal_told(self, literal):
        """The LITERAL of a number."""
        return (self.signs[literal >> 1], literal & 1 == 1)

    def rising(self, literals):
        """The LITERALS of these numbers, each once, rising, as a tuple."""
        in_order = sorted(literals, key=lambda one: (self.sign_keys[one >> 1], one & 1))
        return tuple([self.literal_told(literal) for literal in in_order])

    def in_calls(self, sort):
        """The numbers of the terms of a sort that stand straight in calls, rising."""
        found = {}
        for call in self.all_calls:
            for place in self.closure.places[call]:
                if self.sorts[place] == sort:
                    found[place] = True
        return sorted(found)
