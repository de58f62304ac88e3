"""Terms: what they are, their sorts, parts and texts.

The functions from is_name on take anything or refuse it; those ahead of them take good terms alone, unless they
say otherwise.
"""

from allsorts.errors import BadValue

SORTS = ("thing", "num", "tree", "set", "bits")

MOST_LETTERS = 6
MOST_TERMS = 3
TERM_DEEP = 6
TERM_PARTS = 40

# Of each word but name and call: its sort, the bounds of the number behind the word, if it has one, and the sorts
# of the terms in it.
TERM_WORDS = {
    "number": ("num", (-1000000, 1000000), ()),
    "plus": ("num", (), ("num", "num")),
    "times": ("num", (-1000000, 1000000), ("num",)),
    "tip": ("tree", (), ("num",)),
    "node": ("tree", (), ("tree", "tree")),
    "none": ("set", (), ()),
    "one": ("set", (), ("num",)),
    "union": ("set", (), ("set", "set")),
    "both": ("set", (), ("set", "set")),
    "without": ("set", (), ("set", "set")),
    "bits": ("bits", (0, 15), ()),
    "band": ("bits", (), ("bits", "bits")),
    "bor": ("bits", (), ("bits", "bits")),
    "badd": ("bits", (), ("bits", "bits")),
    "bnot": ("bits", (), ("bits",)),
}


def has_word(thing):
    """Whether anything is a tuple with a text in front.

    Kinds are asked for exactly, here and below: a kind made from tuples, texts or numbers may have a length, an
    equality and the like of its own, which must not be trusted.
    """
    return type(thing) == tuple and len(thing) > 0 and type(thing[0]) == str


def is_term_word(word):
    """Whether a text is the word of a term."""
    return word in ("name", "call") or word in TERM_WORDS


def is_sort(thing):
    """Whether anything is a SORT."""
    return type(thing) == str and thing in SORTS


def has_row(thing, bounds, sorts):
    """Whether behind its word stand a number within the bounds, if there are any, and a place for each sort."""
    if len(bounds) == 0:
        return len(thing) == 1 + len(sorts)
    if len(thing) != 2 + len(sorts) or type(thing[1]) != int:
        return False
    return bounds[0] <= thing[1] <= bounds[1]


def sorts_in_call(thing):
    """As sorts_within, of a tuple with the word call."""
    if len(thing) != 4 or not is_name(thing[1]) or not is_sort(thing[3]) or type(thing[2]) != tuple:
        return None
    if len(thing[2]) < 1 or len(thing[2]) > MOST_TERMS:
        return None
    return ("",) * len(thing[2])


def sorts_within(thing):
    """The sorts wanted of the terms straight in anything, "" for whatever sort.

    None if it is no term, whatever stands in the places of its terms.
    """
    if not has_word(thing):
        return None
    if thing[0] == "name":
        return () if len(thing) == 3 and is_name(thing[1]) and is_sort(thing[2]) else None
    if thing[0] == "call":
        return sorts_in_call(thing)
    if thing[0] not in TERM_WORDS:
        return None
    _, bounds, sorts = TERM_WORDS[thing[0]]
    return sorts if has_row(thing, bounds, sorts) else None


def inner_terms(term):
    """The terms straight in a term, as a tuple."""
    if term[0] == "name":
        return ()
    if term[0] == "call":
        return term[2]
    has_number = len(TERM_WORDS[term[0]][1]) > 0
    return term[2:] if has_number else term[1:]


def term_sort(term):
    """The sort of a term, or of anything for which sorts_within tells sorts."""
    return term[-1] if term[0] in ("name", "call") else TERM_WORDS[term[0]][0]


def term_size(thing, sort, deep, room):
    """How many parts anything has as a term of a sort ("" for whatever sort).

    None if it is none, or is deeper than `deep`, or has more parts than `room`. No more parts than there is room
    for are looked at, as the same thing may stand within another one more often than can be counted.
    """
    deep = min(deep, TERM_DEEP)
    room = min(room, TERM_PARTS)
    if deep < 1 or room < 1:
        return None
    sorts = sorts_within(thing)
    if sorts is None or sort not in ("", term_sort(thing)):
        return None
    size = places_size(inner_terms(thing), sorts, deep - 1, room - 1)
    return None if size is None else 1 + size


def places_size(places, sorts, deep, room):
    """How many parts all these have as terms of these sorts; None as in term_size."""
    total = 0
    for place, sort in zip(places, sorts):
        size = term_size(place, sort, deep, room - total)
        if size is None:
            return None
        total += size
    return total


def parts_in_order(term):
    """All parts of a term as they stand there, each as often, a part ahead of those within it."""
    parts = [term]
    for inner in inner_terms(term):
        parts.extend(parts_in_order(inner))
    return parts


def in_brackets(word, numbers, texts):
    """The text of a word, of the numbers behind it and of the texts behind these."""
    return word + "(" + ",".join([str(number) for number in numbers] + texts) + ")"


def term_text(term):
    """The TEXT of a term."""
    word = term[0]
    if word == "name":
        return f"{term[1]}:{term[2]}"
    if word == "number":
        return str(term[1])
    if word == "bits":
        return "#" + str(term[1])
    texts = [term_text(inner) for inner in inner_terms(term)]
    if word == "call":
        return in_brackets(f"{term[1]}:{term[3]}", (), texts)
    return in_brackets(word, term[1:2] if word == "times" else (), texts)


def each_once(texts, things):
    """These things, each once, sorted by their texts, which are handed in in the same order."""
    table = dict(zip(texts, things))
    return [table[text] for text in sorted(table)]


def is_name(thing):
    """Whether anything is a NAME."""
    if type(thing) != str or len(thing) < 1 or len(thing) > MOST_LETTERS:
        return False
    return all(["a" <= sign <= "z" for sign in thing])


def is_term(thing):
    """Whether anything is a TERM."""
    return term_size(thing, "", TERM_DEEP, TERM_PARTS) is not None


def check_term(thing):
    """Refuses whatever is no TERM."""
    if not is_term(thing):
        raise BadValue("term")


def sort_of(term):
    """The SORT of a TERM."""
    check_term(term)
    return term_sort(term)


def parts_of(term):
    """A list of the PARTS of a TERM, each once, sorted by TEXTS."""
    check_term(term)
    parts = parts_in_order(term)
    return each_once([term_text(part) for part in parts], parts)


def inner_of(term):
    """A list of the TERMS straight in a TERM, in order."""
    check_term(term)
    return list(inner_terms(term))
