"""LITERALS, CLAUSES, and the CLAUSES of SAYINGS.

A literal's key is a tuple of numbers, texts and its truth, by which literals are ordered and told apart: keys stand
in dicts, and are compared, where the literals themselves would be too deep or too slow.
"""

from allsorts.errors import BadValue
from allsorts.sayings import fit, inner_sayings, is_atom, is_atom_word, is_saying, saying_text
from allsorts.terms import has_word, in_brackets, term_text


def right_and_text(atom):
    """An atom TURNED RIGHT, and the TEXT of that."""
    if atom[0] != "same":
        return (atom, saying_text(atom))
    one, other = term_text(atom[1]), term_text(atom[2])
    if one > other:
        return (("same", atom[2], atom[1]), in_brackets("same", (), [other, one]))
    return (atom, in_brackets("same", (), [one, other]))


def key_of_part(number, truth):
    """The key of a literal of ("part", number)."""
    return (0, number, "", truth)


def key_of_atom(text, truth):
    """The key of a literal of the atom with this TEXT."""
    return (1, 0, text, truth)


def key_against(key):
    """The key of what OPPOSES the literal of this key."""
    return key[:3] + (not key[3],)


def literal_key(thing):
    """The key of anything as a LITERAL; None if it is none."""
    if type(thing) != tuple or len(thing) != 2 or type(thing[1]) != bool:
        return None
    sign, truth = thing
    if not has_word(sign):
        return None
    if sign[0] == "part":
        if len(sign) != 2 or type(sign[1]) != int or sign[1] < 0:
            return None
        return key_of_part(sign[1], truth)
    if not is_atom(sign):
        return None
    right, text = right_and_text(sign)
    return key_of_atom(text, truth) if right == sign else None


def literal_keys(thing):
    """A list of the keys of anything as a list or a tuple of LITERALS, in its order; None if it is none."""
    if type(thing) not in (list, tuple):
        return None
    keys = []
    for literal in thing:
        key = literal_key(literal)
        if key is None:
            return None
        keys.append(key)
    return keys


def clause_keys(thing):
    """A list of the keys of anything as a CLAUSE, in its order; None if it is none."""
    if type(thing) != tuple:
        return None
    keys = []
    for literal in thing:
        key = literal_key(literal)
        if key is None or (len(keys) > 0 and not keys[-1] < key):
            return None
        keys.append(key)
    return keys


def rising_by(keys, literals):
    """These literals, rising, each once, as a tuple; the keys are theirs, in the same order."""
    table = dict(zip(keys, literals))
    return tuple([table[key] for key in sorted(table)])


def against(literal):
    """What OPPOSES a literal."""
    return (literal[0], not literal[1])


def have_opposed(keys):
    """Whether two of these keys, rising, are of literals that OPPOSE each other: they stand side by side then."""
    for at in range(1, len(keys)):
        if keys[at][:3] == keys[at - 1][:3]:
            return True
    return False


def lot_keys(thing):
    """A list of the keys of anything as a LOT, in its order; None if it is none."""
    keys = clause_keys(thing)
    # Parts are ahead of atoms.
    if keys is None or (len(keys) > 0 and keys[0][0] == 0) or have_opposed(keys):
        return None
    return keys


def must_be_lot(thing):
    """Refuses whatever is no LOT."""
    if lot_keys(thing) is None:
        raise BadValue("lot")


def lot_of(literals):
    """The LOT of a list or a tuple of LITERALS of ATOMS, some perhaps twice, no two OPPOSED; refuses whatever else."""
    keys = literal_keys(literals)
    if keys is None or not all([key[0] == 1 for key in keys]) or have_opposed(sorted(set(keys))):
        raise BadValue("literals")
    return rising_by(keys, literals)


class Numbering:
    """The literals that belong to sayings and all within them, and the numbers of ands and ors as they are met."""

    def __init__(self, sayings):
        self.keyed = {}
        self.joined = []
        self.tops = [self.meet(saying) for saying in sayings]

    def meet(self, saying):
        """The TEXT of a saying, when all in it was met."""
        if is_atom_word(saying[0]):
            text = saying_text(saying)
            if text not in self.keyed:
                right, right_text = right_and_text(saying)
                self.keyed[text] = (key_of_atom(right_text, True), (right, True))
            return text
        texts = [self.meet(inner) for inner in inner_sayings(saying)]
        text = in_brackets(saying[0], (), texts)
        if text in self.keyed:
            return text
        if saying[0] == "not":
            key, literal = self.keyed[texts[0]]
            self.keyed[text] = (key_against(key), against(literal))
        else:
            number = len(self.joined)
            self.keyed[text] = (key_of_part(number, True), (("part", number), True))
            self.joined.append((saying[0] == "and", text, texts))
        return text

    def pair(self, text, truth):
        """Of the saying with this TEXT its literal's key and its literal, OPPOSED where truth is False."""
        key, literal = self.keyed[text]
        return (key, literal) if truth else (key_against(key), against(literal))

    def pairs_of_joined(self):
        """Of each and, each or, in the order of their numbers, its clauses, each as a list of pairs."""
        rows = []
        for is_and, text, texts in self.joined:
            each = [[self.pair(text, not is_and), self.pair(inner, is_and)] for inner in texts]
            all_of = [[self.pair(text, is_and)] + [self.pair(inner, not is_and) for inner in texts]]
            rows.extend(each + all_of if is_and else all_of + each)
        return rows

    def keyed_rows(self):
        """The CLAUSES, each once, in order, each as a list of pairs (key, literal), rising."""
        found = {}
        for row in self.pairs_of_joined() + [[self.pair(text, True)] for text in self.tops]:
            table = dict(row)
            keys = tuple(sorted(table))
            found.setdefault(keys, [(key, table[key]) for key in keys])
        return list(found.values())

    def told_clauses(self):
        """The CLAUSES, each once, in order."""
        return [tuple([literal for _, literal in row]) for row in self.keyed_rows()]


def turned_right(atom):
    """An ATOM, TURNED RIGHT."""
    if not is_atom(atom):
        raise BadValue("atom")
    return right_and_text(atom)[0]


def opposed(literal):
    """What OPPOSES a LITERAL."""
    if literal_key(literal) is None:
        raise BadValue("literal")
    return against(literal)


def is_literal(thing):
    """Whether anything is a LITERAL."""
    return literal_key(thing) is not None


def is_clause(thing):
    """Whether anything is a CLAUSE."""
    return clause_keys(thing) is not None


def clause_of(literals):
    """The CLAUSE of a list or a tuple of LITERALS, in any order, some twice."""
    keys = literal_keys(literals)
    if keys is None:
        raise BadValue("literals")
    return rising_by(keys, literals)


def literal_of(saying, sayings):
    """The LITERAL that belongs to one of some SAYINGS, or to one within them."""
    fit(sayings)
    if not is_saying(saying):
        raise BadValue("saying")
    numbering = Numbering(sayings)
    text = saying_text(saying)
    if text not in numbering.keyed:
        raise BadValue("saying")
    return numbering.pair(text, True)[1]


def clauses_of(sayings):
    """A list of the CLAUSES of some SAYINGS that FIT."""
    fit(sayings)
    return Numbering(sayings).told_clauses()
