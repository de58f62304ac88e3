"""The rows of a PAPER: which clauses of a search are needed, and what parts tell of those that were judged.

Of what was judged it isn't kept why it clashes. Only where its clause is needed it is judged once more, and for each
tie that isn't told a row is made that it follows; so the clause itself follows at once.
"""

from allsorts.clauses import against, lot_of
from allsorts.judge import Judge
from allsorts.sums import refute_sums
from allsorts.ties import tear_of
from allsorts.trees import refute_trees


def clash_by(word, literals):
    """Of LITERALS that a part refutes a LOT of some of them, and its CERT."""
    lot = lot_of(literals)
    if word == "ties":
        return tear_of(lot)
    if word == "sums":
        return refute_sums(lot)
    if word == "trees":
        return refute_trees(lot)
    return (lot, ("same",))


def opposing(lot):
    """The CLAUSE of what OPPOSES the literals of a LOT."""
    return tuple([against(literal) for literal in lot])


class Rows:
    """The rows of one paper."""

    def __init__(self, joint):
        self.joint = joint
        self.table = joint.table
        self.rows = []
        # What was judged once more, and of its ties that were told, by their numbers, the LITERALS.
        self.judge = None
        self.known = {}

    def paper(self):
        """The PAPER of a search that found nothing."""
        search = self.joint.search
        for number in search.needed():
            clause = self.table.rising(search.clauses[number])
            why = self.joint.growth.whys.get(number, ("rows",))
            if why[0] == "judged":
                self.put_judged([literal ^ 1 for literal in search.clauses[number]])
            elif why[0] == "ties":
                self.put("ties", [against(literal) for literal in clause])
            elif why[0] == "part":
                self.rows.append((clause, why[1:]))
            else:
                self.rows.append((clause, why))
        if len(self.rows[-1][0]) > 0:
            self.rows.append(((), ("rows",)))
        return tuple(self.rows)

    def put(self, word, literals):
        """Puts the row of what a part refutes; its LOT."""
        lot, cert = clash_by(word, literals)
        self.rows.append((opposing(lot), (word, cert)))
        return lot

    def put_judged(self, literals):
        """Puts rows by which it follows at once that not all of these literals can hold."""
        self.judge = Judge(self.table, self.joint.bounds, literals, False)
        self.judge.can_hold()
        self.known = {}
        word, told, pairs = self.judge.clash
        lot = [self.table.literal_told(literal) for literal in told]
        if word == "ties":
            lot = lot + [self.literal_of_tie(number) for number in self.judge.told_by(pairs)]
        else:
            lot = lot + [self.literal_of_pair(one, other) for one, other in pairs if one != other]
        # Where it is told of a tie itself that it isn't so, no part need be asked.
        if not any([against(literal) in lot for literal in lot]):
            lot = self.put(word, lot)
        whole = self.table.rising([literal ^ 1 for literal in self.judge.literals_of(self.judge.clash)])
        if not all([against(literal) in whole for literal in lot]):
            self.rows.append((whole, ("rows",)))

    def literal_of_tie(self, number):
        """The LITERAL of a tie that was told, for which there are rows, if it needs any."""
        if number not in self.known:
            word, told, pairs = self.judge.given[number]
            if word == "told":
                self.known[number] = self.table.literal_told(told[0])
            else:
                literal = self.same(self.judge.ends[number])
                lot = [self.table.literal_told(one) for one in told]
                lot = lot + [self.literal_of_pair(first, last) for first, last in pairs]
                self.put(word, lot + [against(literal)])
                self.known[number] = literal
        return self.known[number]

    def same(self, pair):
        """The LITERAL that two terms are the same."""
        return self.table.literal_told(2 * self.table.atom("same", 0, pair) + 1)

    def literal_of_pair(self, one, other):
        """The LITERAL that two tied terms are the same, for which there are rows, if it needs any."""
        literal = self.same((one, other))
        told = [self.literal_of_tie(number) for number in self.judge.told_by(((one, other),))]
        if literal not in told and (one, other) not in self.known:
            self.put("ties", told + [against(literal)])
        self.known[(one, other)] = literal
        return literal
