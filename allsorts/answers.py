"""What FOLLOWS from SAYINGS, and the ANSWERS that there are on some ASKED."""

from allsorts.chains import is_pair
from allsorts.errors import BadValue, TooGreat
from allsorts.joined import check_bounds, decided
from allsorts.lots import do_hold
from allsorts.nopaper import check_no
from allsorts.sayings import are_sayings, fit, is_saying, saying_size

MOST_ASKED = 4
ASKED_DEEP = 6
ASKED_PARTS = 20
MOST_SAYINGS = 20


def check_all(sayings, is_good, what, others):
    """Refuses what are no SAYINGS, then others that aren't good, then what doesn't FIT together."""
    if not are_sayings(sayings):
        raise BadValue("sayings")
    if not is_good:
        raise BadValue(what)
    fit(list(sayings) + list(others))


def are_asked(thing):
    """Whether anything is a list or a tuple of ASKED SAYINGS."""
    if type(thing) not in (list, tuple) or len(thing) > MOST_ASKED:
        return False
    for saying in thing:
        if saying_size(saying, ASKED_DEEP, ASKED_PARTS) is None:
            return False
    return True


def with_truths(asked, truths):
    """The ASKED SAYINGS, each in a not where it has False."""
    return [saying if truth else ("not", saying) for saying, truth in zip(asked, truths)]


def without(sayings, asked, told):
    """The SAYINGS, and that none of the ANSWERS told holds."""
    return list(sayings) + [("not", ("and", tuple(with_truths(asked, answer)))) for answer in told]


def follows(sayings, saying):
    """("follows", PAPER) where a SAYING FOLLOWS, else ("against", MODEL)."""
    check_all(sayings, is_saying(saying) and is_saying(("not", saying)), "saying", [saying])
    both = list(sayings) + [("not", saying)]
    check_bounds(both)
    told = decided(both, ())
    return ("follows", told[1]) if told[0] == "no" else ("against", told[1])


def answers(sayings, asked):
    """A pair of a list of all pairs (ANSWER, MODEL), rising, and a PAPER that there are no more."""
    check_all(sayings, are_asked(asked), "asked", asked)
    if len(sayings) > MOST_SAYINGS:
        raise TooGreat("sayings")
    check_bounds(list(sayings) + list(asked))
    models = {}
    told = decided(sayings, ())
    while told[0] == "yes":
        # Keys are ordered as ANSWERS are, and each comes once, as those told are barred.
        models[tuple([told[1].holds(saying) for saying in asked])] = told[1]
        told = decided(without(sayings, asked, sorted(models)), ())
    return ([(answer, models[answer]) for answer in sorted(models)], told[1])


def are_answers(sayings, asked, rows):
    """Whether anything is a list of pairs (ANSWER, MODEL), rising, by each of which the SAYINGS hold, the ASKED so."""
    if type(rows) != list:
        return False
    last = None
    for row in rows:
        if not is_pair(row) or type(row[0]) != tuple or len(row[0]) != len(asked):
            return False
        if not all([type(truth) == bool for truth in row[0]]) or (last is not None and not last < row[0]):
            return False
        last = row[0]
        if not do_hold(list(sayings) + with_truths(asked, last), row[1]):
            return False
    return True


def check_answers(sayings, asked, told):
    """Whether anything is a pair of all ANSWERS on the ASKED SAYINGS and a PAPER that there are no more."""
    check_all(sayings, are_asked(asked), "asked", asked)
    if not is_pair(told) or not are_answers(sayings, asked, told[0]):
        return False
    return check_no(without(sayings, asked, [answer for answer, _ in told[0]]), told[1])
