"""BITS: what the bits of numbers, band, bor, badd, bnot are, told by CLAUSES that hold always, and their CERTS.

Each bit of a term hangs on those of its places alone, in badd on the carry, too: this is 1 where of the bits below two
are 1, of the first place, the second one, and what the sum's isn't.
"""

from allsorts.clauses import must_be_lot, right_and_text
from allsorts.errors import BadValue
from allsorts.sets import clause_from, parts_by_texts
from allsorts.terms import in_brackets, inner_terms, is_term, term_sort, term_text
from allsorts.values import is_value

BITS = (0, 1, 2, 3)
TRUTHS = (False, True)
MOST = 15

# Rows of the clauses of one bit of a term by its word: each literal as which term it is of (0 and 1 its places, 2
# itself), whether it is of the bit below, and its truth.
ROWS = {
    "bnot": (((0, False, True), (2, False, True)), ((0, False, False), (2, False, False))),
    "band": (((0, False, True), (2, False, False)), ((1, False, True), (2, False, False)),
             ((0, False, False), (1, False, False), (2, False, True))),
    "bor": (((0, False, False), (2, False, True)), ((1, False, False), (2, False, True)),
            ((0, False, True), (1, False, True), (2, False, False))),
}


def rows_with_carry(carry, ahead):
    """The rows of one bit of badd, where the bits below have these truths, and so that carry."""
    back = tuple([(which, True, not truth) for which, truth in ahead])
    rows = []
    for one in TRUTHS:
        for other in TRUTHS:
            total = (one != other) != carry
            rows.append(back + ((0, False, not one), (1, False, not other), (2, False, total)))
    return rows


def rows_of_sum(bit):
    """The rows of one bit of badd."""
    if bit == 0:
        return rows_with_carry(False, ())
    rows = []
    for carry in TRUTHS:
        marks = ((0, carry), (1, carry), (2, not carry))
        for left in (0, 1, 2):
            rows.extend(rows_with_carry(carry, marks[:left] + marks[left + 1:]))
    return rows


def rows_of(term):
    """Clauses of what the bits of a term are by its word, rows of (which term, bit, truth); which as in ROWS."""
    if term[0] == "bits":
        return [[(2, bit, term[1] >> bit & 1 == 1)] for bit in BITS]
    found = []
    for bit in BITS:
        for row in rows_of_sum(bit) if term[0] == "badd" else ROWS[term[0]]:
            found.append([(which, bit - 1 if is_back else bit, truth) for which, is_back, truth in row])
    return found


def is_made(term):
    """Whether a term is one of bits of which its word tells what its bits are."""
    return term_sort(term) == "bits" and term[0] not in ("name", "call")


def terms_of_made(term):
    """The terms to which the rows of a term refer: its first place, its second one, itself."""
    places = inner_terms(term)
    return (places[0] if len(places) > 0 else term, places[-1] if len(places) > 0 else term, term)


def atoms_of_bits(terms):
    """Of each of these terms, by its place, and each bit: (TEXT, atom)."""
    table = {}
    for which, term in enumerate(terms):
        text = term_text(term)
        for bit in BITS:
            table[(which, bit)] = (in_brackets("bit", (bit,), [text]), ("bit", bit, term))
    return table


def clause_of_row(row, table):
    """The CLAUSE of rows (which term, bit, truth), None if it has a literal and what OPPOSES it."""
    return clause_from([(table[(which, bit)][0], truth, table[(which, bit)][1]) for which, bit, truth in row])


def lemmas_of_made(term):
    """Pairs (CLAUSE, CERT) of what the bits of a term are by its word."""
    terms = terms_of_made(term)
    # Twice the same place is one term.
    first = (0, 0 if terms[0] == terms[1] else 1, 2)
    table = atoms_of_bits(terms)
    found = {}
    for row in rows_of(term):
        once = [(first[which], bit, truth) for which, bit, truth in row]
        clause = clause_of_row(once, table)
        if clause is not None:
            found[tuple(sorted(set(once)))] = clause
    return [(clause, term) for clause in found.values()]


def values_alike(one, other):
    """The VALUES that two terms may both have, as far as they are numbers."""
    told = [term[1] for term in (one, other) if term[0] == "bits"]
    return [value for value in range(MOST + 1) if all([value == number for number in told])]


def lemmas_of_same(one, other):
    """Pairs (CLAUSE, CERT) of two terms' being the same where their bits are alike."""
    same = ("same", one, other)
    if one == other:
        return [(((same, True),), ("same",))]
    text = in_brackets("same", (), [term_text(one), term_text(other)])
    table = atoms_of_bits((one, other))
    found = []
    for value in values_alike(one, other):
        rows = [table[(which, bit)] + (value >> bit & 1 == 0,) for bit in BITS for which in (0, 1)]
        clause = clause_from([(told, truth, atom) for told, atom, truth in rows] + [(text, True, same)])
        found.append((clause, ("same",)))
    return found


def lemmas_of_bits(atoms):
    """A list of pairs (CLAUSE, CERT), by which it FOLLOWS AT ONCE what the bits of terms are, and what is the same."""
    parts = parts_by_texts(atoms)
    lemmas = []
    for text in sorted(parts):
        if is_made(parts[text]):
            lemmas.extend(lemmas_of_made(parts[text]))
    return lemmas + lemmas_of_sames(atoms)


def lemmas_of_sames(atoms):
    """Pairs (CLAUSE, CERT) of all same of bits among atoms, each once, sorted by TEXTS."""
    table = {}
    for atom in atoms:
        if atom[0] == "same" and term_sort(atom[1]) == "bits":
            right, text = right_and_text(atom)
            table[text] = right
    lemmas = []
    for text in sorted(table):
        lemmas.extend(lemmas_of_same(table[text][1], table[text][2]))
    return lemmas


def sum_at(word, places, carry):
    """Of one bit of a term by its word, of those of its places and a carry: the bit, and the next carry."""
    if word == "band":
        return (places[0] & places[1], 0)
    if word == "bor":
        return (places[0] | places[1], 0)
    if word == "bnot":
        return (1 - places[0], 0)
    total = places[0] + places[1] + carry
    return (total & 1, total >> 1)


def can_be_bit(term, bit, told, carry):
    """The carries that there can be behind one bit of a term, where bits are told so, and that carry ahead of it."""
    one, other, _ = terms_of_made(term)
    found = {}
    for first in (0, 1):
        for second in (0, 1):
            is_so = first == second or one != other
            if is_so and told.get((bit, 0), first) == first and told.get((bit, 1), second) == second:
                total, after = sum_at(term[0], (first, second), carry)
                if told.get((bit, 2), total) == total:
                    found[after] = True
    return list(found)


def can_be_word(term, told):
    """Whether bits can be as they are told, by (bit, which term)."""
    if term[0] == "bits":
        return all([told.get((bit, 2), term[1] >> bit & 1) == term[1] >> bit & 1 for bit in BITS])
    carries = [0]
    for bit in BITS:
        carries = [after for carry in carries for after in can_be_bit(term, bit, told, carry)]
    return len(carries) > 0


def look_made(lot, term):
    """Whether not all of a LOT can hold, by what the bits of a term are by its word."""
    terms = terms_of_made(term)
    told = {}
    for atom, truth in lot:
        if atom[0] != "bit" or atom[2] not in terms:
            return False
        for which in (0, 1, 2):
            if atom[2] == terms[which]:
                told[(atom[1], which)] = 1 if truth else 0
    return not can_be_word(term, told)


def look_same(lot):
    """Whether not all of a LOT can hold, as two terms all bits of which are alike would be unlike."""
    sames = [(atom, truth) for atom, truth in lot if atom[0] == "same"]
    if len(sames) != 1 or sames[0][1] or term_sort(sames[0][0][1]) != "bits":
        return False
    _, one, other = sames[0][0]
    told = {}
    for atom, truth in lot:
        if atom[0] == "bit" and atom[2] in (one, other):
            told[(atom[1], atom[2] == one)] = truth
        elif atom[0] != "same":
            return False
    if one == other:
        return True
    return all([(bit, True) in told and told.get((bit, False), None) == told[(bit, True)] for bit in BITS])


def look_bits(lot, cert):
    """Whether anything is a CERT that not all of a LOT can hold."""
    must_be_lot(lot)
    if is_term(cert):
        return is_made(cert) and look_made(lot, cert)
    return type(cert) == tuple and len(cert) == 1 and type(cert[0]) == str and cert[0] == "same" and look_same(lot)


def word_of(value):
    """A tuple of the four truths of a VALUE of bits, the least bit first."""
    if not is_value(value, "bits"):
        raise BadValue("value")
    return tuple([value >> bit & 1 == 1 for bit in BITS])
