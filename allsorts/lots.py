"""LEAST LOTS: SAYINGS that can't all hold, of which none can be left out; and PAPERS of such."""

from allsorts.chains import is_number
from allsorts.clauses import Numbering, clause_keys
from allsorts.joined import check_bounds, decided
from allsorts.nopaper import check_no
from allsorts.sayings import fit
from allsorts.values import Model


def some(sayings, numbers):
    """The SAYINGS of these numbers, in order."""
    return [sayings[number] for number in numbers]


def needed(sayings, numbers, paper):
    """Of SAYINGS, these being their numbers, those that a PAPER needs: of two that say the same the first one alone."""
    said = {}
    for clause, why in paper:
        if why[0] == "say" and len(clause) == 1:
            said[clause_keys(clause)[0]] = True
    numbering = Numbering(sayings)
    found = []
    for number, text in zip(numbers, numbering.tops):
        if said.pop(numbering.pair(text, True)[0], False):
            found.append(number)
    return found


def least(sayings):
    """A LEAST LOT of SAYINGS, as a list, and by the numbers of it MODELS of all others; None where all can hold."""
    told = decided(sayings, ())
    if told[0] == "yes":
        return None
    lot = needed(sayings, list(range(len(sayings))), told[1])
    models = {}
    at = 0
    while at < len(lot):
        fewer = lot[:at] + lot[at + 1:]
        told = decided(some(sayings, fewer), ())
        if told[0] == "yes":
            # It stays: all of a lesser LOT but it hold by this MODEL, too.
            models[lot[at]] = told[1]
            at += 1
        else:
            lot = needed(some(sayings, fewer), fewer, told[1])
    return (lot, models)


def least_lot(sayings):
    """A LEAST LOT of SAYINGS, or None where all can hold."""
    fit(sayings)
    check_bounds(sayings)
    found = least(sayings)
    return None if found is None else tuple(found[0])


def lot_paper(sayings):
    """A PAPER of a LEAST LOT of SAYINGS, (LOT, PAPER, MODELS), or None where all can hold."""
    fit(sayings)
    check_bounds(sayings)
    found = least(sayings)
    if found is None:
        return None
    lot, models = found
    _, paper = decided(some(sayings, lot), ())
    return (tuple(lot), paper, tuple([models[number] for number in lot]))


def are_rising(thing, count):
    """Whether anything is a rising tuple of whole numbers from 0 on, below the count."""
    if type(thing) != tuple:
        return False
    for at, number in enumerate(thing):
        if not is_number(number, count) or (at > 0 and number <= thing[at - 1]):
            return False
    return True


def do_hold(sayings, model):
    """Whether anything is a MODEL by which all these SAYINGS hold."""
    return type(model) == Model and all([model.holds(saying) for saying in sayings])


def check_lot(sayings, paper):
    """Whether anything is a PAPER of a LEAST LOT of SAYINGS."""
    fit(sayings)
    if type(paper) != tuple or len(paper) != 3 or not are_rising(paper[0], len(sayings)):
        return False
    lot, no, models = paper
    if type(models) != tuple or len(models) != len(lot) or not check_no(some(sayings, lot), no):
        return False
    for at, model in enumerate(models):
        if not do_hold(some(sayings, lot[:at] + lot[at + 1:]), model):
            return False
    return True
