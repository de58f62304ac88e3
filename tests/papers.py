"""A plain looker at CHAINS and their ENDS, by the words of the document; and what spoils a paper in one place."""

from allsorts.terms import is_term
from tests.plain import head_of, inner_of


def is_place(thing, count):
    return type(thing) is int and 0 <= thing < count


def plain_row(lot, chain, at, of_trees):
    """Whether a row is so, by those ahead; of rows that have the right form."""
    one, other, why = chain[at]
    ahead = chain[:at]
    if why[0] == "told":
        return lot[why[1]] in ((("same", one, other), True), (("same", other, one), True))
    if why[0] == "itself":
        return one == other
    if why[0] == "turned":
        return ahead[why[1]][:2] == (other, one)
    if why[0] == "through":
        first, last = ahead[why[1]], ahead[why[2]]
        return first[0] == one and first[1] == last[0] and last[1] == other
    if why[0] == "within":
        places = list(zip(inner_of(one), inner_of(other)))
        return head_of(one) == head_of(other) and [ahead[row][:2] for row in why[1]] == places
    first, last = ahead[why[1]][:2]
    if not of_trees or first[0] != last[0] or first[0] not in ("tip", "node"):
        return False
    return (first[1 + why[2]], last[1 + why[2]]) == (one, other)


FORMS = {"told": 2, "itself": 1, "turned": 2, "through": 3, "within": 2, "inner": 3}


def has_form(lot, chain, at):
    row = chain[at]
    if type(row) is not tuple or len(row) != 3 or not is_term(row[0]) or not is_term(row[1]):
        return False
    why = row[2]
    if type(why) is not tuple or not why or type(why[0]) is not str or FORMS.get(why[0]) != len(why):
        return False
    if why[0] == "told":
        return is_place(why[1], len(lot))
    if why[0] == "within":
        return type(why[1]) is tuple and all(is_place(row, at) for row in why[1])
    if why[0] == "inner":
        return is_place(why[1], at) and is_place(why[2], len(chain[why[1]][0]) - 1)
    return all(is_place(row, at) for row in why[1:])


def plain_chain(lot, chain, of_trees):
    if type(chain) is not tuple:
        return False
    return all(has_form(lot, chain, at) and plain_row(lot, chain, at, of_trees) for at in range(len(chain)))


def plain_unlike(lot, chain, end):
    if len(end) != 3 or not is_place(end[1], len(lot)) or not is_place(end[2], len(chain)):
        return False
    one, other, _ = chain[end[2]]
    return lot[end[1]] in ((("same", one, other), False), (("same", other, one), False))


def plain_paper_of_ties(lot, paper):
    """Whether anything is a PAPER that a LOT is TORN."""
    if type(paper) is not tuple or len(paper) != 2 or not plain_chain(lot, paper[0], False):
        return False
    chain, end = paper
    if type(end) is not tuple or not end:
        return False
    if end[0] == "unlike":
        return plain_unlike(lot, chain, end)
    if end[0] != "apart" or len(end) != 4 or not is_place(end[1], len(lot)) or not is_place(end[2], len(lot)):
        return False
    (one, truth), (other, against) = lot[end[1]], lot[end[2]]
    if (truth, against) != (True, False) or one[0] not in ("most", "in", "bit") or head_of(one) != head_of(other):
        return False
    if type(end[3]) is not tuple or not all(is_place(row, len(chain)) for row in end[3]):
        return False
    return [chain[row][:2] for row in end[3]] == list(zip(inner_of(one), inner_of(other)))


def plain_cert_of_trees(lot, cert):
    """Whether anything is a CERT of trees, the lot being of same of "num" and of "tree" alone."""
    if type(cert) is not tuple or len(cert) != 2 or not plain_chain(lot, cert[0], True):
        return False
    chain, end = cert
    if type(end) is not tuple or not end:
        return False
    if end[0] == "unlike":
        return plain_unlike(lot, chain, end)
    if end[0] == "words":
        return len(end) == 2 and is_place(end[1], len(chain)) and sorted(
            [chain[end[1]][0][0], chain[end[1]][1][0]]) == ["node", "tip"]
    if end[0] != "ring" or len(end) != 2 or type(end[1]) is not tuple or not end[1]:
        return False
    if not all(is_place(row, len(chain)) for row in end[1]):
        return False
    rows = [chain[row] for row in end[1]]
    return all(row[1][0] == "node" and after[0] in row[1][1:] for row, after in zip(rows, rows[1:] + rows[:1]))


def spoilt(thing):
    """Things that are unlike this one in one place: left out, twice, exchanged, another number, truth or kind."""
    if type(thing) is tuple:
        yield list(thing)
        yield thing + (0,)
        for at in range(len(thing)):
            yield thing[:at] + thing[at + 1:]
            yield thing[:at] + (thing[at],) + thing[at:]
            if at > 0:
                yield thing[:at - 1] + (thing[at], thing[at - 1]) + thing[at + 1:]
            for other in spoilt(thing[at]):
                yield thing[:at] + (other,) + thing[at + 1:]
    elif type(thing) is int:
        yield from (thing + 1, thing - 1, -thing, bool(thing), float(thing), str(thing), None)
    elif type(thing) is str:
        yield from (thing + "x", "", None, thing.upper(), "itself", "through", "unlike", "same")
    else:
        yield None
