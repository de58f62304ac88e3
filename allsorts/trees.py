"""TREES: whether trees can be found by which the told ones are the same and not, and CERTS that they can't."""

from allsorts.chains import is_chain, is_number, is_pair, is_unlike
from allsorts.clauses import lot_of, must_be_lot
from allsorts.closure import ChainMaker
from allsorts.terms import has_word, term_sort
from allsorts.ties import Tied


def is_of_trees(atom):
    """Whether an atom is same, of "num" or of "tree"."""
    return atom[0] == "same" and term_sort(atom[1]) in ("num", "tree")


def ring_of(inner):
    """A list of roots each of which has the next one in it, the last one the first one; None if there is none.

    `inner` has of each root of nodes a list of those roots that stand in it.
    """
    done = {}
    for start in inner:
        path = [start]
        left = [list(inner[start])]
        while len(path) > 0:
            if len(left[-1]) == 0:
                done[path.pop()] = True
                left.pop()
                continue
            root = left[-1].pop()
            if root in path:
                return path[path.index(root):]
            if root in inner and root not in done:
                path.append(root)
                left.append(list(inner[root]))
    return None


def ring_pairs(closure):
    """The pairs of tied terms by which a tree stands within itself; None if none does."""
    nodes = {}
    for number, root in enumerate(closure.roots):
        if root == number and closure.built[root] is not None and closure.terms[closure.built[root]][0] == "node":
            nodes[root] = closure.built[root]
    inner = {}
    for root, node in nodes.items():
        inner[root] = [closure.roots[place] for place in closure.places[node]]
    ring = ring_of(inner)
    if ring is None:
        return None
    pairs = []
    for at, root in enumerate(ring):
        # Into this one of the ring leads a place of the node of the one ahead of it.
        places = closure.places[nodes[ring[at - 1]]]
        pairs.append(([place for place in places if closure.roots[place] == root][0], nodes[root]))
    return pairs


def clash_of(ties):
    """By what no trees can be found: the word of the END, the numbers of literals in it, and the pairs of terms."""
    if ties.closure.mixed is not None:
        return ("words", [], [ties.closure.mixed])
    pairs = ring_pairs(ties.closure)
    if pairs is not None:
        return ("ring", [], pairs)
    number = ties.unlike()
    if number is not None:
        return ("unlike", [number], [ties.places[number]])
    return None


def refute_trees(literals):
    """None, or of literals by which no trees and numbers can be found a LOT of some, and a CERT that it is so."""
    lot = tuple([literal for literal in lot_of(literals) if is_of_trees(literal[0])])
    ties = Tied(lot, True)
    clash = clash_of(ties)
    if clash is None:
        return None
    word, numbers, pairs = clash
    used = sorted(set(numbers + ties.closure.told_for(pairs)))
    told = {}
    for at, number in enumerate(used):
        told[number] = at
    maker = ChainMaker(ties.closure, told)
    rows = maker.rows_of(pairs)
    end = (word, rows) if word == "ring" else (word,) + tuple([told[number] for number in numbers]) + rows
    return (tuple([lot[number] for number in used]), (maker.chain(), end))


def is_of_words(chain, end):
    """Whether anything with the word in front is an END ("words", I)."""
    if len(end) != 2 or not is_number(end[1], len(chain)):
        return False
    one, other, _ = chain[end[1]]
    return (one[0], other[0]) in (("tip", "node"), ("node", "tip"))


def is_ring(chain, end):
    """Whether anything with the word in front is an END ("ring", ROWS)."""
    if len(end) != 2 or type(end[1]) != tuple or len(end[1]) == 0:
        return False
    for number in end[1]:
        if not is_number(number, len(chain)):
            return False
    for at, number in enumerate(end[1]):
        # The row ahead of the first one is the last one.
        node = chain[end[1][at - 1]][1]
        if node[0] != "node" or chain[number][0] not in node[1:]:
            return False
    return True


def look_trees(lot, cert):
    """Whether anything is a CERT that no trees can be found by a LOT."""
    must_be_lot(lot)
    for atom, _ in lot:
        if not is_of_trees(atom):
            return False
    if not is_pair(cert) or not has_word(cert[1]) or not is_chain(lot, cert[0], True):
        return False
    chain, end = cert
    if end[0] == "unlike":
        return is_unlike(lot, chain, end)
    if end[0] == "words":
        return is_of_words(chain, end)
    return end[0] == "ring" and is_ring(chain, end)
