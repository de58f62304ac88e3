"""A DESK: a solver that is asked by lines, and answers by texts."""

from allsorts.errors import BadText, BadValue, NoFit, Nothing, TooGreat
from allsorts.reading import read_saying, read_term
from allsorts.sayings import fit, saying_text
from allsorts.solver import Solver
from allsorts.terms import term_sort

WORDS = ("push", "pop", "ask", "least", "said", "depth")
WORDS_WITH_TEXT = ("say", "value", "holds", "follows")


def yes_or_no(truth):
    """The text of a truth."""
    return "yes" if truth else "no"


def text_of_fraction(fraction):
    """The text of a FRACTION."""
    over, under = fraction
    return str(over) if under == 1 else f"{over}/{under}"


def text_of_tree(tree):
    """The text of a tree."""
    if tree[0] == "tip":
        return "tip(" + text_of_fraction(tree[1]) + ")"
    return "node(" + text_of_tree(tree[1]) + "," + text_of_tree(tree[2]) + ")"


def text_of_value(value, sort):
    """The text of a VALUE of a SORT."""
    if sort == "num":
        return text_of_fraction(value)
    if sort == "tree":
        return text_of_tree(value)
    if sort == "set":
        return "{" + ",".join([text_of_fraction(fraction) for fraction in value]) + "}"
    return str(value)


class Desk:
    """One solver, and the answers to lines."""

    def __init__(self):
        self._solver = Solver()

    def say(self, line):
        """The text that answers anything."""
        if type(line) != str or "\n" in line or "\r" in line:
            return "no line"
        try:
            return self._answer(line)
        except BadText as bad:
            return f"bad text {bad.place}"
        except BadValue:
            return "no line"
        except NoFit as unfit:
            return f"no fit {unfit.what} {unfit.name}"
        except TooGreat:
            return "too great"
        except Nothing:
            return "nothing"

    def _answer(self, line):
        """As say, of a text without a line end."""
        word, blank, text = line.partition(" ")
        if blank == "":
            return self._answer_word(line) if line in WORDS else "no line"
        if word not in WORDS_WITH_TEXT:
            return "no line"
        if word == "value":
            return self._answer_value(read_term(text))
        saying = read_saying(text)
        if word == "say":
            self._solver.say(saying)
            return "done"
        if word == "follows":
            return yes_or_no(self._solver.follows(saying)[0] == "follows")
        self._check_fit(saying)
        model = self._solver.model()
        return "no model" if model is None else yes_or_no(model.holds(saying))

    def _check_fit(self, saying):
        """Refuses a SAYING that doesn't FIT with what STANDS; a model would tell of it all the same."""
        fit(self._solver.said() + [saying])

    def _answer_value(self, term):
        """The answer to "value" and a term."""
        # Only of sayings it is asked whether they fit: this one is a saying of whatever term, and fits where that does.
        self._check_fit(("same", term, term))
        model = self._solver.model()
        return "no model" if model is None else text_of_value(model.value(term), term_sort(term))

    def _answer_word(self, word):
        """The answer to a word alone."""
        if word == "push":
            self._solver.push()
            return "done"
        if word == "pop":
            self._solver.pop()
            return "done"
        if word == "ask":
            return self._solver.ask()
        if word == "depth":
            return str(self._solver.depth())
        if word == "said":
            texts = [saying_text(saying) for saying in self._solver.said()]
            return " ; ".join(texts) if len(texts) > 0 else "nothing"
        lot = self._solver.least()
        return "nothing" if lot is None else " ".join([str(number) for number in lot])
