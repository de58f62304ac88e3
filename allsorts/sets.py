"""SETS: what is in none, one, union, both, without, told by CLAUSES that hold always, and their CERTS.

Whether a number is in a set that its word tells of hangs on at most two other atoms: on those here called besides.
"""

from allsorts.clauses import must_be_lot, right_and_text
from allsorts.errors import BadValue
from allsorts.sayings import atom_terms, is_atom
from allsorts.terms import in_brackets, inner_terms, is_term, parts_in_order, term_sort, term_text

# Of each word its clauses: the truths with which there stand in each the two atoms besides (None where it doesn't
# stand there), and that of the number in the set.
CLAUSES = {
    "none": ((None, None, False),),
    "one": ((False, None, True), (True, None, False)),
    "union": ((False, None, True), (None, False, True), (True, True, False)),
    "both": ((True, None, False), (None, True, False), (False, False, True)),
    "without": ((True, None, False), (None, False, False), (False, True, True)),
}
CLAUSES_OF_ITSELF = ((None, None, True),)


def parts_by_texts(atoms):
    """All terms that are PARTS of these ATOMS, by their TEXTS; refuses whatever is no list or tuple of such."""
    if type(atoms) not in (list, tuple):
        raise BadValue("atoms")
    for atom in atoms:
        if not is_atom(atom):
            raise BadValue("atoms")
    table = {}
    for atom in atoms:
        for term in atom_terms(atom):
            for part in parts_in_order(term):
                table[term_text(part)] = part
    return table


def numbers_told(atoms, parts):
    """The TEXTS of all terms of which one or in is there, sorted."""
    found = {}
    for atom in atoms:
        if atom[0] == "in":
            found[term_text(atom[1])] = True
    for part in parts.values():
        if part[0] == "one":
            found[term_text(part[1])] = True
    return sorted(found)


def is_made(term):
    """Whether a term is a set of which its word tells what is in it."""
    return term_sort(term) == "set" and term[0] not in ("name", "call")


def besides(number, text, made, texts):
    """The atoms on which it hangs that a number is in a set, as pairs (TEXT, atom).

    `text` is that of the number, `texts` are those of the terms straight in the set.
    """
    if made[0] == "one":
        atom, told = right_and_text(("same", number, made[1]))
        return [] if text == texts[0] else [(told, atom)]
    return [(in_brackets("in", (), [text, inner]), ("in", number, term)) for inner, term in zip(texts, made[1:])]


def clause_from(rows):
    """The CLAUSE of rows (TEXT, truth, atom); None if it has a literal and what OPPOSES it."""
    once = []
    for row in sorted(rows):
        if len(once) == 0 or once[-1][0] != row[0]:
            once.append(row)
        elif once[-1][1] != row[1]:
            return None
    return tuple([(atom, truth) for _, truth, atom in once])


def clauses_of_set(number, text, made, texts):
    """The CLAUSES that tell of a number in a set, each once; what is handed in is as in besides."""
    others = besides(number, text, made, texts)
    itself = (in_brackets("in", (), [text, term_text(made)]), ("in", number, made))
    found = []
    for truths in CLAUSES_OF_ITSELF if made[0] == "one" and len(others) == 0 else CLAUSES[made[0]]:
        pairs = [(told, truth) for told, truth in zip(others, truths) if truth is not None] + [(itself, truths[2])]
        clause = clause_from([(told[0], truth, told[1]) for told, truth in pairs])
        if clause is not None and clause not in found:
            found.append(clause)
    return found


def lemmas_of_sets(atoms):
    """A list of pairs (CLAUSE, CERT), by which it FOLLOWS AT ONCE what is in each set of which its word tells."""
    parts = parts_by_texts(atoms)
    numbers = numbers_told(atoms, parts)
    lemmas = []
    for made in [parts[text] for text in sorted(parts) if is_made(parts[text])]:
        texts = [term_text(inner) for inner in inner_terms(made)]
        for text in numbers:
            lemmas.extend([(clause, made) for clause in clauses_of_set(parts[text], text, made, texts)])
    return lemmas


def is_in(made, truths):
    """Whether a number is in a set, by the truths of the atoms besides."""
    if made[0] in ("none", "one"):
        return made[0] == "one" and (len(truths) == 0 or truths[0])
    if made[0] == "union":
        return truths[0] or truths[1]
    if made[0] == "both":
        return truths[0] and truths[1]
    return truths[0] and not truths[1]


def can_all_hold(made, wanted, others, told):
    """Whether the atoms besides can have truths, those of some being told, by which a number is, or isn't, in a set."""
    for first in (True, False):
        for second in (True, False):
            truths = [first, second][:len(others)]
            # Where both are the same atom it has one truth.
            table = {}
            for text, truth in zip(others, truths):
                table.setdefault(text, truth)
            as_told = [table[text] == told.get(text, table[text]) for text in others]
            if [table[text] for text in others] == truths and all(as_told) and is_in(made, truths) == wanted:
                return True
    return False


def look_sets(lot, cert):
    """Whether anything is a CERT that not all of a LOT can hold."""
    must_be_lot(lot)
    if not is_term(cert) or not is_made(cert):
        return False
    first = [literal for literal in lot if literal[0][0] == "in" and literal[0][2] == cert]
    if len(first) != 1:
        return False
    (_, number, _), wanted = first[0]
    texts = [term_text(inner) for inner in inner_terms(cert)]
    pairs = besides(number, term_text(number), cert, texts)
    told = {}
    for atom, truth in lot:
        texts = [text for text, other in pairs if other == atom]
        if len(texts) > 0:
            told[texts[0]] = truth
        elif atom != ("in", number, cert):
            return False
    return not can_all_hold(cert, wanted, [text for text, _ in pairs], told)
