"""SUMS: whether numbers can be found by which sums are as they are told to be, and CERTS that they can't.

What a literal tells of a sum is called so: "zero", "most" (at most 0), "below" (below 0), "unlike" (not 0).
"""

from allsorts.chains import is_number
from allsorts.clauses import lot_of, must_be_lot
from allsorts.errors import BadValue
from allsorts.finding import Finding
from allsorts.ratios import ZERO, is_below, product_of, sum_of
from allsorts.terms import has_word, is_term, term_sort, term_text
from allsorts.values import is_fraction


def gather(term, times, table, unknowns):
    """Adds a multiple of a term of "num" to a table, of each UNKNOWN's TEXT how many times it is; its number alone."""
    if term[0] == "number":
        return times * term[1]
    if term[0] == "times":
        return gather(term[2], times * term[1], table, unknowns)
    if term[0] == "plus":
        return gather(term[1], times, table, unknowns) + gather(term[2], times, table, unknowns)
    text = term_text(term)
    unknowns[text] = term
    table[text] = table.get(text, 0) + times
    return 0


def is_of_sums(atom):
    """Whether an atom tells of a sum: same or most, of "num"."""
    return atom[0] == "most" or (atom[0] == "same" and term_sort(atom[1]) == "num")


def word_of_told(literal):
    """What a literal tells of its sum."""
    atom, truth = literal
    if atom[0] == "same":
        return "zero" if truth else "unlike"
    return "most" if truth else "below"


def told(literal, unknowns):
    """The sum of which a literal tells, as a number and a table, and what it tells of it."""
    word = word_of_told(literal)
    sign = -1 if word == "below" else 1
    atom = literal[0]
    table = {}
    number = gather(atom[1], sign, table, unknowns) + gather(atom[2], -sign, table, unknowns)
    return (number, table, word)


def finding_of(lot):
    """What the literals of a LOT that tell of sums ask for, and all UNKNOWNS in them, by their TEXTS."""
    unknowns = {}
    rows = [told(literal, unknowns) for literal in lot]
    return (Finding(rows, sorted(unknowns)), unknowns)


def linear(term):
    """A term of "num" as a pair of a list of pairs (UNKNOWN, FRACTION), sorted by TEXTS, and a FRACTION."""
    if not is_term(term) or term_sort(term) != "num":
        raise BadValue("term")
    table = {}
    unknowns = {}
    number = gather(term, 1, table, unknowns)
    return ([(unknowns[text], (table[text], 1)) for text in sorted(table) if table[text] != 0], (number, 1))


def number_values(literals):
    """A list of pairs (UNKNOWN, FRACTION), by which all literals that tell of sums hold; None if there is none."""
    lot = [literal for literal in lot_of(literals) if is_of_sums(literal[0])]
    finding, unknowns = finding_of(lot)
    numbers = finding.look_for()
    if numbers is None:
        return None
    return [(unknowns[text], number) for text, number in zip(sorted(unknowns), numbers)]


def refute_sums(literals):
    """None, or of literals by which no numbers can be found a LOT of some, and a CERT that it is so."""
    lot = [literal for literal in lot_of(literals) if is_of_sums(literal[0])]
    finding, _ = finding_of(lot)
    if finding.look_for() is not None:
        return None
    used = [at for at in range(len(lot)) if any([at in table for table in finding.weights])]
    few = tuple([lot[number] for number in used])
    certs = [tuple([table.get(number, ZERO) for number in used]) for table in finding.weights]
    if len(certs) == 1:
        return (few, certs[0])
    return (few, ("two", used.index(finding.apart_at), certs[0], certs[1]))


def is_weight(thing, word):
    """Whether anything is a WEIGHT of a literal that tells so."""
    if not is_fraction(thing):
        return False
    return word == "zero" or thing[0] == 0 or (thing[0] > 0 and word != "unlike")


def do_clash(rows, weights):
    """Whether anything is a tuple of WEIGHTS by which what rows tell of their sums comes to what can't be."""
    if type(weights) != tuple or len(weights) != len(rows):
        return False
    is_strict = False
    totals = {"": ZERO}
    for (number, table, word), weight in zip(rows, weights):
        if not is_weight(weight, word):
            return False
        is_strict = is_strict or (word == "below" and weight[0] > 0)
        # No TEXT is empty: under "" stands the number alone.
        for text, times in [("", number)] + list(table.items()):
            totals[text] = sum_of(totals.get(text, ZERO), product_of(weight, (times, 1)))
    number = totals.pop("")
    if any([total != ZERO for total in totals.values()]):
        return False
    return is_below(ZERO, number) or (is_strict and number == ZERO)


def taken(rows, at, sign):
    """These rows, but that of a sum that isn't 0: it, or what is 0 less it, is taken to be below 0."""
    number, table, _ = rows[at]
    row = (sign * number, {text: sign * times for text, times in table.items()}, "below")
    return rows[:at] + [row] + rows[at + 1:]


def look_sums(lot, cert):
    """Whether anything is a CERT that no numbers can be found by a LOT."""
    must_be_lot(lot)
    for atom, _ in lot:
        if not is_of_sums(atom):
            return False
    rows = [told(literal, {}) for literal in lot]
    if not has_word(cert):
        return do_clash(rows, cert)
    if cert[0] != "two" or len(cert) != 4 or not is_number(cert[1], len(rows)) or rows[cert[1]][2] != "unlike":
        return False
    return do_clash(taken(rows, cert[1], 1), cert[2]) and do_clash(taken(rows, cert[1], -1), cert[3])
