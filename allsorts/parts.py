"""PARTS: tuples (WORD, LEMMAS, REFUTE, LOOK), and those that are here."""

from allsorts.bits import lemmas_of_bits, look_bits
from allsorts.clauses import lot_of
from allsorts.errors import BadValue
from allsorts.sets import lemmas_of_sets, look_sets
from allsorts.sums import look_sums, refute_sums
from allsorts.ties import check_torn, torn
from allsorts.trees import look_trees, refute_trees

MOST_LETTERS = 8
KEPT_WORDS = ("say", "rows", "apart")


def no_lemmas(_):
    """LEMMAS of a part that has none."""
    return []


def no_clash(_):
    """REFUTE of a part that refutes nothing."""
    return None


def tear_ties(literals):
    """REFUTE of ties: as torn, of LITERALS in a list or a tuple."""
    return torn(lot_of(literals))


def look_at_ties(lot, cert):
    """LOOK of ties."""
    return check_torn(lot, cert)


def refute_by_sums(literals):
    """REFUTE of sums."""
    return refute_sums(literals)


def look_at_sums(lot, cert):
    """LOOK of sums."""
    return look_sums(lot, cert)


def refute_by_trees(literals):
    """REFUTE of trees."""
    return refute_trees(literals)


def look_at_trees(lot, cert):
    """LOOK of trees."""
    return look_trees(lot, cert)


def lemmas_by_sets(atoms):
    """LEMMAS of sets."""
    return lemmas_of_sets(atoms)


def look_at_sets(lot, cert):
    """LOOK of sets."""
    return look_sets(lot, cert)


def lemmas_by_bits(atoms):
    """LEMMAS of bits."""
    return lemmas_of_bits(atoms)


def look_at_bits(lot, cert):
    """LOOK of bits."""
    return look_bits(lot, cert)


PARTS = (
    ("ties", no_lemmas, tear_ties, look_at_ties),
    ("sums", no_lemmas, refute_by_sums, look_at_sums),
    ("trees", no_lemmas, refute_by_trees, look_at_trees),
    ("sets", lemmas_by_sets, no_clash, look_at_sets),
    ("bits", lemmas_by_bits, no_clash, look_at_bits),
)


def is_word(thing):
    """Whether anything is a WORD of a part."""
    if type(thing) != str or len(thing) < 1 or len(thing) > MOST_LETTERS or thing in KEPT_WORDS:
        return False
    return all(["a" <= sign <= "z" for sign in thing])


def is_part(thing):
    """Whether anything is a PART, as far as its form tells."""
    return type(thing) == tuple and len(thing) == 4 and is_word(thing[0])


def parts_here():
    """A tuple of TIES, SUMS, TREES, SETS, BITS."""
    return PARTS


def part_of(word):
    """The PART here of that WORD."""
    for part in PARTS:
        if type(word) == str and part[0] == word:
            return part
    raise BadValue("word")


def more_parts(more):
    """A tuple of PARTS that are handed in; refuses whatever is no list or tuple of such of unlike WORDS, none here."""
    if type(more) not in (list, tuple):
        raise BadValue("more")
    words = [part[0] for part in PARTS]
    for part in more:
        if not is_part(part) or part[0] in words:
            raise BadValue("more")
        words.append(part[0])
    return tuple(more)
