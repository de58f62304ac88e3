"""DECIDED: whether SAYINGS can all hold, by all parts together."""

from allsorts.clauses import Numbering
from allsorts.errors import TooGreat
from allsorts.joint import Joint
from allsorts.making import made_model
from allsorts.parts import more_parts
from allsorts.rows import Rows
from allsorts.sayings import fit, terms_in_order
from allsorts.terms import term_text

MOST_SAYINGS = 40
MOST_TERMS = 60
MOST_NODES = 8


def check_bounds(sayings):
    """Refuses more than is decided."""
    if len(sayings) > MOST_SAYINGS:
        raise TooGreat("sayings")
    words = {}
    for saying in sayings:
        for term in terms_in_order(saying):
            words[term_text(term)] = term[0]
    if len(words) > MOST_TERMS:
        raise TooGreat("terms")
    if list(words.values()).count("node") > MOST_NODES:
        raise TooGreat("nodes")


def decided(sayings, parts):
    """As decide, of what was looked at."""
    joint = Joint(sayings, Numbering(sayings), parts)
    if not joint.can_hold():
        return ("no", Rows(joint).paper())
    literals = joint.search.trail
    return ("yes", made_model(joint.table, joint.judge, literals), joint.table.rising(literals))


def decide(sayings, *, more=()):
    """("yes", MODEL, LITERALS) where all SAYINGS can hold, else ("no", PAPER); `more` are PARTS beside those here."""
    fit(sayings)
    check_bounds(sayings)
    return decided(sayings, more_parts(more))
