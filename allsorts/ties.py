"""What is TIED by a LOT, whether it is TORN, and PAPERS of that."""

from allsorts.chains import is_apart, is_chain, is_pair, is_unlike
from allsorts.clauses import lot_keys, must_be_lot
from allsorts.closure import ChainMaker, Closure, head_of
from allsorts.errors import BadValue
from allsorts.sayings import inner_things
from allsorts.terms import has_word, is_term, term_text


class Tied:
    """The ties that a LOT brings; `places` are the numbers of the terms straight in each of its atoms."""

    def __init__(self, lot, is_of_trees=False):
        self.lot = lot
        self.closure = Closure(is_of_trees)
        self.places = [tuple([self.closure.take(term) for term in inner_things(atom)]) for atom, _ in lot]
        for number, (atom, truth) in enumerate(lot):
            if atom[0] == "same" and truth:
                self.closure.tell(self.places[number][0], self.places[number][1], number)
        self.closure.settle()

    def unlike(self):
        """The number of a literal same, with False, of two terms that are tied; None if there is none."""
        for number, (atom, truth) in enumerate(self.lot):
            if atom[0] == "same" and not truth:
                one, other = self.places[number]
                if self.closure.are_tied(one, other):
                    return number
        return None

    def apart(self):
        """The numbers of two literals, True and False, of one HEAD, their places tied; None if there are none."""
        met = {}
        for number, (atom, truth) in enumerate(self.lot):
            if atom[0] in ("most", "in", "bit"):
                key = (head_of(atom), tuple([self.closure.roots[place] for place in self.places[number]]))
                other = met.setdefault(key, number)
                if self.lot[other][1] != truth:
                    return (number, other) if truth else (other, number)
        return None

    def tear(self):
        """By what it is TORN: the numbers of the literals at its end, and the pairs of tied terms; None if it isn't."""
        number = self.unlike()
        if number is not None:
            return ((number,), [self.places[number]])
        numbers = self.apart()
        if numbers is None:
            return None
        return (numbers, list(zip(self.places[numbers[0]], self.places[numbers[1]])))


def reasons(lot):
    """The literals of a LOT by which it is TORN, as a LOT; None if it isn't."""
    tied_by = Tied(lot)
    tear = tied_by.tear()
    if tear is None:
        return None
    numbers, pairs = tear
    return tuple([lot[number] for number in sorted(set(list(numbers) + tied_by.closure.told_for(pairs)))])


def least_torn(lot):
    """Of a LOT that is TORN literals by which it is, too, of which none can be left out."""
    at = 0
    while at < len(lot):
        # Those ahead of this place were asked already: they are in each LOT of some of these that is TORN.
        fewer = reasons(lot[:at] + lot[at + 1:])
        if fewer is None:
            at += 1
        else:
            lot = fewer
    return lot


def paper_of(lot):
    """A PAPER that a LOT is TORN, which it is."""
    tied_by = Tied(lot)
    numbers, pairs = tied_by.tear()
    maker = ChainMaker(tied_by.closure, list(range(len(lot))))
    rows = maker.rows_of(pairs)
    if len(numbers) == 1:
        return (maker.chain(), ("unlike", numbers[0], rows[0]))
    return (maker.chain(), ("apart", numbers[0], numbers[1], rows))


def tear_of(lot):
    """Of a LOT that is TORN some literals by which it is, as a LOT, and a PAPER of that."""
    few = reasons(lot)
    return (few, paper_of(few))


def is_lot(thing):
    """Whether anything is a LOT."""
    return lot_keys(thing) is not None


def tied(lot):
    """A list of lists of all terms in a LOT, those TIED together in one, sorted by TEXTS, the lists by their first."""
    must_be_lot(lot)
    closure = Tied(lot).closure
    lists = {}
    for text, number in sorted([(term_text(term), number) for number, term in enumerate(closure.terms)]):
        lists.setdefault(closure.roots[number], []).append(closure.terms[number])
    return list(lists.values())


def are_tied(lot, one, other):
    """Whether two terms are TIED by a LOT."""
    must_be_lot(lot)
    if not is_term(one):
        raise BadValue("one")
    if not is_term(other):
        raise BadValue("other")
    if one == other:
        return True
    closure = Tied(lot).closure
    first = closure.number_of(one)
    second = closure.number_of(other)
    return first is not None and second is not None and closure.are_tied(first, second)


def torn(lot):
    """None, or of a LOT that is TORN a pair (LOT, PAPER): literals of which none can be left out, and that they are."""
    must_be_lot(lot)
    few = reasons(lot)
    if few is None:
        return None
    few = least_torn(few)
    return (few, paper_of(few))


def check_torn(lot, paper):
    """Whether anything is a PAPER that a LOT is TORN."""
    must_be_lot(lot)
    if not is_pair(paper) or not has_word(paper[1]) or not is_chain(lot, paper[0], False):
        return False
    chain, end = paper
    if end[0] == "unlike":
        return is_unlike(lot, chain, end)
    return end[0] == "apart" and is_apart(lot, chain, end)
