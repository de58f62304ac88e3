"""VALUES of each SORT, and the MODEL that gives them to TERMS."""

from math import gcd

from allsorts.errors import BadValue
from allsorts.ratios import is_below
from allsorts.sayings import atom_terms, check_saying, is_atom_word
from allsorts.terms import MOST_TERMS, check_term, has_word, inner_terms, is_name, is_sort, term_sort
from allsorts.working import MOST_BITS, atom_holds, worth_of

TREE_DEEP = 40
TREE_PARTS = 600

PLAIN = {"thing": 0, "num": (0, 1), "tree": ("tip", (0, 1)), "set": (), "bits": 0}


def tree_size(thing, deep, room):
    """Of how many tips and nodes a tree is, each counted as often as it stands there.

    None if it is none, or is deeper than `deep`, or has more of them than `room`. No more of them than there is
    room for are looked at, as the same one may stand within another one more often than can be counted.
    """
    if deep < 1 or room < 1 or not has_word(thing):
        return None
    if thing[0] == "tip":
        return 1 if len(thing) == 2 and is_fraction(thing[1]) else None
    if thing[0] != "node" or len(thing) != 3:
        return None
    total = 1
    for inner in thing[1:]:
        size = tree_size(inner, deep - 1, room - total)
        if size is None:
            return None
        total += size
    return total


def is_rising(thing):
    """Whether anything is a tuple of FRACTIONS, rising as numbers."""
    if type(thing) != tuple:
        return False
    last = None
    for item in thing:
        if not is_fraction(item) or (last is not None and not is_below(last, item)):
            return False
        last = item
    return True


def is_fraction(thing):
    """Whether anything is a FRACTION."""
    if type(thing) != tuple or len(thing) != 2:
        return False
    over, under = thing
    if type(over) != int or type(under) != int:
        return False
    return under > 0 and gcd(over, under) == 1


def is_value(thing, sort):
    """Whether anything is a VALUE of that SORT."""
    if not is_sort(sort):
        return False
    if sort == "num":
        return is_fraction(thing)
    if sort == "tree":
        return tree_size(thing, TREE_DEEP, TREE_PARTS) is not None
    if sort == "set":
        return is_rising(thing)
    return type(thing) == int and thing >= 0 and (sort == "thing" or thing <= MOST_BITS)


def plain_value(sort):
    """The PLAIN VALUE of a SORT."""
    if not is_sort(sort):
        raise BadValue("sort")
    return PLAIN[sort]


def less(one, other):
    """Whether a FRACTION is less than another one."""
    if not is_fraction(one):
        raise BadValue("one")
    if not is_fraction(other):
        raise BadValue("other")
    return is_below(one, other)


def is_row_of_names(thing):
    """Whether anything is a triple (NAME, SORT, VALUE)."""
    return type(thing) == tuple and len(thing) == 3 and is_name(thing[0]) and is_value(thing[2], thing[1])


def is_pair_of_call(thing):
    """Whether anything is a pair (SORT, VALUE)."""
    return type(thing) == tuple and len(thing) == 2 and is_value(thing[1], thing[0])


def is_row_of_calls(thing):
    """Whether anything is a row (NAME, VALUES, SORT, VALUE)."""
    if type(thing) != tuple or len(thing) != 4 or not is_name(thing[0]) or not is_value(thing[3], thing[2]):
        return False
    if type(thing[1]) != tuple or len(thing[1]) < 1 or len(thing[1]) > MOST_TERMS:
        return False
    for pair in thing[1]:
        if not is_pair_of_call(pair):
            return False
    return True


def are_rows(thing, is_row):
    """Whether anything is a list or a tuple of things of which is_row tells True."""
    if type(thing) not in (list, tuple):
        return False
    for row in thing:
        if not is_row(row):
            return False
    return True


def has_twice(things):
    """Whether two things side by side are the same."""
    for at in range(1, len(things)):
        if things[at] == things[at - 1]:
            return True
    return False


def names_of_model(thing):
    """The NAMES of a model, sorted, of anything that may be handed in for them."""
    rows = sorted(thing) if are_rows(thing, is_row_of_names) else None
    if rows is None or has_twice([row[0] for row in rows]):
        raise BadValue("names")
    return tuple(rows)


def calls_of_model(thing):
    """The CALLS of a model, sorted, of anything that may be handed in for them."""
    rows = sorted(thing) if are_rows(thing, is_row_of_calls) else None
    if rows is None or has_twice([row[:3] for row in rows]):
        raise BadValue("calls")
    return tuple(rows)


def props_of_model(thing):
    """The PROPS of a model, sorted, of anything that may be handed in for them."""
    rows = sorted(thing) if are_rows(thing, is_name) else None
    if rows is None or has_twice(rows):
        raise BadValue("props")
    return tuple(rows)


def row_at(rows, front):
    """Of sorted rows the one that begins with `front`, or None."""
    low = 0
    high = len(rows)
    while low < high:
        middle = (low + high) // 2
        if rows[middle][:len(front)] < front:
            low = middle + 1
        else:
            high = middle
    if low < len(rows) and rows[low][:len(front)] == front:
        return rows[low]
    return None


class Model:
    """What the names, the calls and the props are; what isn't told has the PLAIN VALUE, or doesn't hold."""

    def __init__(self, names=(), *, calls=(), props=()):
        self._names = names_of_model(names)
        self._calls = calls_of_model(calls)
        self._props = props_of_model(props)

    def names(self):
        """NAMES: the triples (NAME, SORT, VALUE), sorted."""
        return self._names

    def calls(self):
        """CALLS: the rows (NAME, VALUES, SORT, VALUE), sorted."""
        return self._calls

    def props(self):
        """PROPS: the NAMES of the props that hold, sorted."""
        return self._props

    def value(self, term):
        """What a TERM comes to."""
        check_term(term)
        return self._worth(term)

    def holds(self, saying):
        """Whether a SAYING holds."""
        check_saying(saying)
        return self._is_so(saying)

    def with_name(self, name, sort, value):
        """Another model, in which that NAME has that VALUE; all else is as here."""
        if not is_name(name):
            raise BadValue("name")
        if not is_sort(sort):
            raise BadValue("sort")
        if not is_value(value, sort):
            raise BadValue("value")
        other = Model()
        other._names = tuple(sorted([row for row in self._names if row[0] != name] + [(name, sort, value)]))
        other._calls = self._calls
        other._props = self._props
        return other

    def _worth(self, term):
        if term[0] == "name":
            row = row_at(self._names, (term[1],))
            return row[2] if row is not None and row[1] == term[2] else PLAIN[term[2]]
        worths = [self._worth(inner) for inner in inner_terms(term)]
        if term[0] != "call":
            return worth_of(term, worths)
        pairs = [(term_sort(inner), worth) for inner, worth in zip(term[2], worths)]
        row = row_at(self._calls, (term[1], tuple(pairs), term[3]))
        return PLAIN[term[3]] if row is None else row[3]

    def _is_so(self, saying):
        word = saying[0]
        if word == "prop":
            return saying[1] in self._props
        if is_atom_word(word):
            return atom_holds(saying, [self._worth(term) for term in atom_terms(saying)])
        if word == "not":
            return not self._is_so(saying[1])
        for inner in saying[1]:
            # The first one that fails an and, or holds of an or, tells of all.
            if self._is_so(inner) == (word == "or"):
                return word == "or"
        return word == "and"

    def __eq__(self, other):
        return (isinstance(other, Model) and self._names == other._names and self._calls == other._calls
                and self._props == other._props)

    def __len__(self):
        return len(self._names)

    def __repr__(self):
        return f"Model({len(self._names)} names)"
