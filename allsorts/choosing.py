"""What FOLLOWS AT ONCE from CLAUSES, ROWS that REFUTE them, and what is CHOSEN of them."""

from allsorts.clauses import clause_keys, literal_keys
from allsorts.errors import BadValue
from allsorts.search import Search


class Signs:
    """Numbers for the signs of literals, from 0, as they come."""

    def __init__(self):
        self.numbers = {}
        self.signs = []

    def number(self, key, literal):
        """The number of a literal with this key, as the search counts literals."""
        sign = key[:3]
        if sign not in self.numbers:
            self.numbers[sign] = len(self.signs)
            self.signs.append(literal[0])
        return 2 * self.numbers[sign] + (1 if key[3] else 0)

    def clause(self, keys, literals):
        """The numbers of these literals, in a list."""
        return [self.number(key, literal) for key, literal in zip(keys, literals)]

    def search_of(self, rows):
        """A search over the signs so far that has these clauses."""
        search = Search(len(self.signs))
        for row in rows:
            search.add_clause(row)
        return search

    def rising(self, numbers):
        """The LITERALS of these numbers, rising, as a tuple."""
        wanted = {}
        for number in numbers:
            wanted[number] = True
        found = []
        for sign in sorted(self.numbers):
            first = 2 * self.numbers[sign]
            found.extend([first + more for more in (0, 1) if first + more in wanted])
        return tuple([(self.signs[number >> 1], number & 1 == 1) for number in found])


def numbered(signs, things):
    """Of anything as a tuple or a list of CLAUSES their literals' numbers, in lists; None if it is none."""
    if type(things) not in (list, tuple):
        return None
    rows = []
    for thing in things:
        keys = clause_keys(thing)
        if keys is None:
            return None
        rows.append(signs.clause(keys, thing))
    return rows


def check_clauses(signs, clauses):
    """As numbered, of CLAUSES that are handed in; refuses whatever is none."""
    rows = numbered(signs, clauses)
    if rows is None:
        raise BadValue("clauses")
    return rows


def at_once(clauses, literals=()):
    """A tuple of all LITERALS that are there or FOLLOW AT ONCE, rising; None where they CLASH AT ONCE."""
    signs = Signs()
    rows = check_clauses(signs, clauses)
    keys = literal_keys(literals)
    if keys is None:
        raise BadValue("literals")
    there = signs.clause(keys, literals)
    search = signs.search_of(rows + [[number] for number in there])
    return signs.rising(search.trail) if search.settle() else None


def check_rows(clauses, rows):
    """Whether these are ROWS that REFUTE the CLAUSES."""
    signs = Signs()
    there = check_clauses(signs, clauses)
    ahead = numbered(signs, rows) if type(rows) == tuple else None
    if ahead is None or [] not in ahead:
        return False
    search = signs.search_of(there)
    for row in ahead:
        if not search.clashes([number ^ 1 for number in row]):
            return False
        search.add_clause(row)
    return True


def choose(clauses):
    """What is CHOSEN of CLAUSES: ("yes", LITERALS), or ("no", ROWS)."""
    signs = Signs()
    search = signs.search_of(check_clauses(signs, clauses))
    learnt = search.choose()
    if learnt is None:
        return ("yes", signs.rising(search.trail))
    return ("no", tuple([signs.rising(row) for row in learnt]))
