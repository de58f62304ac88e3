"""PARTS that are handed in: what they are asked, and what they must not tell."""

from allsorts.chains import is_pair
from allsorts.clauses import against, clause_keys, have_opposed, literal_key, lot_keys
from allsorts.errors import BadPart
from allsorts.sayings import terms_in_order
from allsorts.terms import term_text


def is_lot_of(keys):
    """Whether keys of a CLAUSE are of one that is, OPPOSED, a LOT."""
    return keys is not None and not have_opposed(keys) and (len(keys) == 0 or keys[0][0] == 1)


def texts_of(atom):
    """The TEXTS of all terms in an atom."""
    return [term_text(term) for term in terms_in_order(atom)]


def looked_at(part, lot, cert):
    """Refuses what a part tells of a LOT and doesn't let by itself."""
    word, _, _, look = part
    # What is only like True doesn't let by.
    if look(lot, cert) is not True:
        raise BadPart(word)


def lemmas_told(part, atoms):
    """What LEMMAS of a part tell of a list of atoms, looked at: a list of (keys, CLAUSE, CERT)."""
    word, lemmas, _, _ = part
    told = lemmas(list(atoms))
    if type(told) != list:
        raise BadPart(word)
    known = {}
    for atom in atoms:
        for text in texts_of(atom):
            known[text] = True
    found = []
    # The part may keep the list, and change it while it looks.
    for pair in list(told):
        keys = clause_keys(pair[0]) if is_pair(pair) else None
        if not is_lot_of(keys):
            raise BadPart(word)
        clause, cert = pair
        if not all([text in known for atom, _ in clause for text in texts_of(atom)]):
            raise BadPart(word)
        looked_at(part, tuple([against(literal) for literal in clause]), cert)
        found.append((keys, clause, cert))
    return found


def refuted(part, literals):
    """What REFUTE of a part tells of LITERALS, looked at: None, or (LOT, CERT)."""
    word, _, refute, _ = part
    told = refute(literals)
    if told is None:
        return None
    if not is_pair(told) or lot_keys(told[0]) is None:
        raise BadPart(word)
    known = {}
    for literal in literals:
        known[literal_key(literal)] = True
    if not all([literal_key(literal) in known for literal in told[0]]):
        raise BadPart(word)
    looked_at(part, told[0], told[1])
    return told
