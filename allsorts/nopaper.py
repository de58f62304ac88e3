"""Whether a PAPER comes out, row by row; nothing is known here of any search."""

from allsorts.chains import is_pair
from allsorts.clauses import Numbering, against, clause_keys, clause_of, have_opposed
from allsorts.parts import more_parts, parts_here
from allsorts.sayings import fit, uses_in_order
from allsorts.search import Search
from allsorts.terms import has_word, is_name, term_sort


def names_of_atoms(atoms):
    """The NAMES of all names in some atoms, as the keys of a dict."""
    found = {}
    for atom in atoms:
        for what, name, _ in uses_in_order(atom):
            if what == "name":
                found[name] = True
    return found


def clause_apart(pair, name, truth):
    """A CLAUSE by which the number apart of that NAME is in one alone of two sets, or these are the same."""
    _, one, other = pair
    number = ("name", name, "num")
    return clause_of([(pair, True), (("in", number, one), truth), (("in", number, other), truth)])


def pair_of(clause, name):
    """The same of two sets of which a CLAUSE is one of the number apart of that NAME; None if it is none."""
    for atom, truth in clause:
        if truth and atom[0] == "same" and term_sort(atom[1]) == "set":
            if clause in (clause_apart(atom, name, True), clause_apart(atom, name, False)):
                return atom
    return None


class Looker:
    """What a PAPER is looked at by: its SAYINGS, and the PARTS."""

    def __init__(self, sayings, parts):
        self.clauses_said = {}
        for row in Numbering(sayings).keyed_rows():
            self.clauses_said[tuple([key for key, _ in row])] = True
        self.parts = {part[0]: part for part in parts_here() + parts}
        self.others = [part[0] for part in parts]
        self.names_said = names_of_atoms(sayings)
        # Of each number apart its pair; the NAMES in all pairs so far, and those in CLAUSES of PARTS handed in.
        self.pairs_apart = {}
        self.in_pairs = {}
        self.outside = {}
        # Numbers of the signs, and the search that has the CLAUSES of the rows so far.
        self.signs = {}
        self.search = None

    def keys_of(self, paper):
        """The keys of each row's CLAUSE; None if anything isn't a tuple of rows, the last CLAUSE empty."""
        if type(paper) != tuple or len(paper) == 0:
            return None
        found = []
        for row in paper:
            keys = clause_keys(row[0]) if is_pair(row) and has_word(row[1]) else None
            if keys is None:
                return None
            found.append(keys)
            if row[1][0] in self.others:
                self.outside.update(names_of_atoms([atom for atom, _ in row[0] if atom[0] != "part"]))
        return found if found[-1] == [] else None

    def numbered(self, keys):
        """The literals of these keys, as a search counts them."""
        return [2 * self.signs.setdefault(key[:3], len(self.signs)) + (1 if key[3] else 0) for key in keys]

    def comes_out(self, paper):
        """Whether anything is a PAPER that comes out."""
        keys = self.keys_of(paper)
        if keys is None:
            return False
        rows = [self.numbered(row) for row in keys]
        self.search = Search(len(self.signs))
        for at, (clause, why) in enumerate(paper):
            if not self.is_so(keys[at], rows[at], clause, why):
                return False
            self.search.add_clause(rows[at])
        return True

    def is_so(self, keys, numbers, clause, why):
        """Whether a row is so, by those ahead."""
        if len(why) == 1:
            if why[0] == "say":
                return tuple(keys) in self.clauses_said
            return why[0] == "rows" and self.search.clashes([number ^ 1 for number in numbers])
        if len(why) != 2:
            return False
        if why[0] == "apart":
            return is_name(why[1]) and self.is_apart(clause, why[1])
        if why[0] not in self.parts or have_opposed(keys) or (len(keys) > 0 and keys[0][0] == 0):
            return False
        _, _, _, look = self.parts[why[0]]
        return look(tuple([against(literal) for literal in clause]), why[1]) is True

    def is_apart(self, clause, name):
        """Whether a CLAUSE is one of the number apart of a NAME, which may be used so."""
        pair = pair_of(clause, name)
        if pair is None or name in self.names_said or name in self.outside or name in names_of_atoms([pair]):
            return False
        if name not in self.pairs_apart:
            if name in self.in_pairs:
                return False
            self.pairs_apart[name] = pair
            self.in_pairs.update(names_of_atoms([pair]))
        return self.pairs_apart[name] == pair


def check_no(sayings, paper, *, more=()):
    """Whether anything is a PAPER that not all SAYINGS can hold; `more` are PARTS beside those here."""
    fit(sayings)
    return Looker(sayings, more_parts(more)).comes_out(paper)
