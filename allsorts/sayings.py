"""Sayings and atoms: what they are, what stands in them, their texts, and whether some fit.

The functions from is_atom on take anything or refuse it; those ahead of them take good sayings alone, unless they
say otherwise.
"""

from allsorts.errors import BadValue, NoFit
from allsorts.terms import TERM_DEEP, TERM_PARTS, each_once, has_row, has_word, in_brackets, inner_terms, is_name
from allsorts.terms import is_term, is_term_word, parts_in_order, places_size, term_size, term_sort, term_text

MOST_SAYINGS = 6
SAYING_DEEP = 12
SAYING_PARTS = 120

# Of each word of an atom but prop: the bounds of the number behind the word, if it has one, and the sorts of the
# terms in it, "" for whatever sort.
ATOM_WORDS = {
    "same": ((), ("", "")),
    "most": ((), ("num", "num")),
    "in": ((), ("num", "set")),
    "bit": ((0, 3), ("bits",)),
}


def is_atom_word(word):
    """Whether a text is the word of an atom."""
    return word == "prop" or word in ATOM_WORDS


def atom_terms(atom):
    """The terms straight in an atom, as a tuple."""
    if atom[0] == "prop":
        return ()
    has_number = len(ATOM_WORDS[atom[0]][0]) > 0
    return atom[2:] if has_number else atom[1:]


def atom_size(thing, deep, room):
    """How many parts a tuple with the word of an atom has; None as in saying_size."""
    if thing[0] == "prop":
        return 1 if len(thing) == 2 and is_name(thing[1]) else None
    bounds, sorts = ATOM_WORDS[thing[0]]
    if not has_row(thing, bounds, sorts):
        return None
    size = places_size(atom_terms(thing), sorts, deep - 1, room - 1)
    if size is None:
        return None
    if thing[0] == "same" and term_sort(thing[1]) != term_sort(thing[2]):
        return None
    return 1 + size


def joined_sayings(thing):
    """What stands straight in a tuple with a word that joins sayings, as a tuple; None if it can't be a saying."""
    if len(thing) != 2:
        return None
    if thing[0] == "not":
        return thing[1:]
    if thing[0] not in ("and", "or") or type(thing[1]) != tuple or len(thing[1]) > MOST_SAYINGS:
        return None
    return thing[1]


def saying_size(thing, deep, room):
    """How many parts anything has as a saying.

    None if it is none, or is deeper than `deep`, or has more parts than `room`. As in term_size, no more parts
    than there is room for are looked at.
    """
    if deep < 1 or room < 1 or not has_word(thing):
        return None
    if is_atom_word(thing[0]):
        return atom_size(thing, deep, room)
    sayings = joined_sayings(thing)
    if sayings is None:
        return None
    total = 1
    for saying in sayings:
        size = saying_size(saying, deep - 1, room - total)
        if size is None:
            return None
        total += size
    return total


def inner_sayings(saying):
    """The sayings straight in a saying, as a tuple."""
    return () if is_atom_word(saying[0]) else joined_sayings(saying)


def sayings_in_order(saying):
    """All sayings that are parts of a saying, as they stand there, each as often, one ahead of those within it."""
    sayings = [saying]
    for inner in inner_sayings(saying):
        sayings.extend(sayings_in_order(inner))
    return sayings


def atoms_in_order(saying):
    """All atoms in a saying, as they stand there, each as often."""
    return [part for part in sayings_in_order(saying) if is_atom_word(part[0])]


def terms_in_order(saying):
    """All terms that are parts of a saying, as they stand there, each as often, one ahead of those within it."""
    terms = []
    for atom in atoms_in_order(saying):
        for term in atom_terms(atom):
            terms.extend(parts_in_order(term))
    return terms


def saying_text(saying):
    """The TEXT of a saying."""
    word = saying[0]
    if word == "prop":
        return saying[1] + "?"
    if is_atom_word(word):
        texts = [term_text(term) for term in atom_terms(saying)]
        return in_brackets(word, saying[1:2] if word == "bit" else (), texts)
    return in_brackets(word, (), [saying_text(inner) for inner in inner_sayings(saying)])


def inner_things(thing):
    """The terms and sayings straight in a term or a saying, as a tuple."""
    if is_term_word(thing[0]):
        return inner_terms(thing)
    return atom_terms(thing) if is_atom_word(thing[0]) else inner_sayings(thing)


def thing_deep(thing):
    """How deep a term or a saying is."""
    return 1 + max([thing_deep(inner) for inner in inner_things(thing)], default=0)


def use_of(term):
    """Of a name or a call: "name" or "call", its NAME, and a tuple of the sorts with which it stands there."""
    return (term[0], term[1], tuple([term_sort(inner) for inner in inner_terms(term)] + [term_sort(term)]))


def uses_in_order(saying):
    """The uses of all names and calls in a saying, as they stand there, a call ahead of its terms."""
    return [use_of(term) for term in terms_in_order(saying) if term[0] in ("name", "call")]


def is_atom(thing):
    """Whether anything is an ATOM."""
    return is_saying(thing) and is_atom_word(thing[0])


def is_saying(thing):
    """Whether anything is a SAYING."""
    return saying_size(thing, SAYING_DEEP, SAYING_PARTS) is not None


def are_sayings(thing):
    """Whether anything is a list or a tuple of SAYINGS."""
    if type(thing) not in (list, tuple):
        return False
    for saying in thing:
        if not is_saying(saying):
            return False
    return True


def check_saying(thing):
    """Refuses whatever is no SAYING."""
    if not is_saying(thing):
        raise BadValue("saying")


def atoms_of(saying):
    """A list of all ATOMS in a SAYING, each once, sorted by TEXTS."""
    check_saying(saying)
    atoms = atoms_in_order(saying)
    return each_once([saying_text(atom) for atom in atoms], atoms)


def terms_of(saying):
    """A list of all TERMS that are PARTS of a SAYING, each once, sorted by TEXTS."""
    check_saying(saying)
    terms = terms_in_order(saying)
    return each_once([term_text(term) for term in terms], terms)


def text_of(thing):
    """The TEXT of a TERM, an ATOM or a SAYING."""
    if is_term(thing):
        return term_text(thing)
    if is_saying(thing):
        return saying_text(thing)
    raise BadValue("thing")


def deep_of(thing):
    """How deep a TERM or a SAYING is."""
    if not is_term(thing) and not is_saying(thing):
        raise BadValue("thing")
    return thing_deep(thing)


def size_of(thing):
    """Of how many PARTS a TERM or a SAYING is, each counted as often as it stands there."""
    size = term_size(thing, "", TERM_DEEP, TERM_PARTS)
    if size is None:
        size = saying_size(thing, SAYING_DEEP, SAYING_PARTS)
    if size is None:
        raise BadValue("thing")
    return size


def fit(sayings):
    """Refuses whatever is no list or tuple of SAYINGS, then SAYINGS that don't FIT."""
    if not are_sayings(sayings):
        raise BadValue("sayings")
    uses = {}
    for saying in sayings:
        for what, name, sorts in uses_in_order(saying):
            if uses.setdefault((what, name), sorts) != sorts:
                raise NoFit(what, name)
