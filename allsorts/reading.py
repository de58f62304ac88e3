"""Reading TEXTS back: the TERM or the SAYING that has a TEXT.

A text is read loosely first, whatever the sorts, the depth and the count of parts: so the first sign that can't
stand where it stands tells its place. Only what was read whole is asked whether it is a TERM or a SAYING. What was
begun is kept in a list, as it may be thousands deep.
"""

from allsorts.errors import BadText
from allsorts.sayings import is_saying
from allsorts.terms import MOST_LETTERS, MOST_TERMS, SORTS, is_term

FIGURES = 7
FIGURES_OF_BITS = 2

# Of each word with brackets: what stands in these ("term" or "saying"), how many of it at least and at most.
WORDS_OF_TERMS = {
    "plus": ("term", 2, 2),
    "times": ("term", 1, 1),
    "tip": ("term", 1, 1),
    "node": ("term", 2, 2),
    "none": ("term", 0, 0),
    "one": ("term", 1, 1),
    "union": ("term", 2, 2),
    "both": ("term", 2, 2),
    "without": ("term", 2, 2),
    "band": ("term", 2, 2),
    "bor": ("term", 2, 2),
    "badd": ("term", 2, 2),
    "bnot": ("term", 1, 1),
}
WORDS_OF_SAYINGS = {
    "same": ("term", 2, 2),
    "most": ("term", 2, 2),
    "in": ("term", 2, 2),
    "bit": ("term", 1, 1),
    "not": ("saying", 1, 1),
    "and": ("saying", 0, 6),
    "or": ("saying", 0, 6),
}


class Begun:
    """A thing whose bracket was opened; `front` and `back` are what stands around that which is within."""

    def __init__(self, front, form, back=None):
        self.front = front
        self.kind, self.fewest, self.most = form
        self.back = back
        self.within = []

    def whole(self):
        """The thing, of all that came within it."""
        if self.back is None:
            return self.front + tuple(self.within)
        return self.front + (tuple(self.within),) + self.back


class Reader:
    """A text, and how far it was read."""

    def __init__(self, text):
        self.text = text
        self.at = 0
        self.begun = []

    def sign(self):
        """The next sign, "" at the end."""
        return self.text[self.at:self.at + 1]

    def take(self, sign):
        """Goes on over this sign, which must come."""
        if self.sign() != sign:
            raise BadText(self.at)
        self.at += 1

    def figures(self, most):
        """A number of so many figures at most, without a 0 ahead."""
        start = self.at
        while self.at < start + most and "0" <= self.sign() <= "9" and self.text[start:self.at] != "0":
            self.at += 1
        if self.at == start:
            raise BadText(self.at)
        return int(self.text[start:self.at])

    def number(self):
        """A number, perhaps below 0."""
        if self.sign() != "-":
            return self.figures(FIGURES)
        self.at += 1
        if self.sign() == "0":
            raise BadText(self.at)
        return -self.figures(FIGURES)

    def word(self, longer):
        """The small letters that come, a NAME or a word; `longer` is a word that is longer than any NAME, or ""."""
        start = self.at
        while "a" <= self.sign() <= "z":
            if self.at - start >= MOST_LETTERS and not longer.startswith(self.text[start:self.at + 1]):
                raise BadText(self.at)
            self.at += 1
        if self.at == start:
            raise BadText(self.at)
        return self.text[start:self.at]

    def sort_there(self):
        """The SORT that comes; none of them is what another one begins with."""
        start = self.at
        while self.text[start:self.at] not in SORTS:
            letters = self.text[start:self.at + 1]
            if self.at == len(self.text) or not any([sort.startswith(letters) for sort in SORTS]):
                raise BadText(self.at)
            self.at += 1
        return self.text[start:self.at]

    def term(self):
        """A term if it is whole, None where its bracket was opened."""
        if self.sign() == "-" or "0" <= self.sign() <= "9":
            return ("number", self.number())
        if self.sign() == "#":
            self.at += 1
            return ("bits", self.figures(FIGURES_OF_BITS))
        word = self.word("without")
        if self.sign() == ":" and len(word) <= MOST_LETTERS:
            self.at += 1
            return self.name_or_call(word)
        if self.sign() != "(" or word not in WORDS_OF_TERMS:
            raise BadText(self.at)
        self.at += 1
        front = (word,)
        if word == "times":
            front = (word, self.number())
            self.take(",")
        return self.begin(Begun(front, WORDS_OF_TERMS[word]))

    def name_or_call(self, name):
        """As term, behind the ":" of a NAME."""
        sort = self.sort_there()
        if self.sign() != "(":
            return ("name", name, sort)
        self.at += 1
        return self.begin(Begun(("call", name), ("term", 1, MOST_TERMS), (sort,)))

    def saying(self):
        """A saying if it is whole, None where its bracket was opened."""
        word = self.word("")
        if self.sign() == "?":
            self.at += 1
            return ("prop", word)
        if self.sign() != "(" or word not in WORDS_OF_SAYINGS:
            raise BadText(self.at)
        self.at += 1
        front = (word,)
        if word == "bit":
            front = (word, self.number_of_bit())
            self.take(",")
        back = () if word in ("and", "or") else None
        return self.begin(Begun(front, WORDS_OF_SAYINGS[word], back))

    def number_of_bit(self):
        """One figure, to 3."""
        if self.sign() not in ("0", "1", "2", "3"):
            raise BadText(self.at)
        return self.figures(1)

    def begin(self, begun):
        """Keeps what was opened; the whole of it if it is closed at once."""
        if begun.fewest == 0 and (begun.most == 0 or self.sign() == ")"):
            self.take(")")
            return begun.whole()
        self.begun.append(begun)
        return None

    def inner(self):
        """Reads what must come behind a bracket or a comma, or at the start: as term, as saying."""
        return self.term() if self.begun[-1].kind == "term" else self.saying()

    def put(self, thing):
        """Puts a thing into what was opened last; the whole of that if it is closed by the next sign."""
        begun = self.begun[-1]
        begun.within.append(thing)
        if self.sign() == "," and len(begun.within) < begun.most:
            self.at += 1
            return None
        if len(begun.within) < begun.fewest:
            raise BadText(self.at)
        self.take(")")
        self.begun.pop()
        return begun.whole()


def check_text(text):
    """Refuses whatever is no text."""
    if type(text) != str:
        raise BadText(0)


def read_on(reader, thing):
    """Reads on behind the first thing (None where it was only begun) to the end of the text; the whole of it."""
    while len(reader.begun) > 0:
        thing = reader.inner() if thing is None else reader.put(thing)
    if reader.at < len(reader.text):
        raise BadText(reader.at)
    return thing


def read_term(text):
    """The TERM that has this TEXT."""
    check_text(text)
    reader = Reader(text)
    term = read_on(reader, reader.term())
    if not is_term(term):
        raise BadText(len(text))
    return term


def read_saying(text):
    """The SAYING that has this TEXT."""
    check_text(text)
    reader = Reader(text)
    saying = read_on(reader, reader.saying())
    if not is_saying(saying):
        raise BadText(len(text))
    return saying
