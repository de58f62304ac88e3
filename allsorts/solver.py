"""A SOLVER: sayings come and go in layers, and what was told of them is kept as long as they stay."""

from allsorts.answers import follows
from allsorts.errors import Nested, Nothing
from allsorts.joined import decide
from allsorts.lots import least_lot
from allsorts.parts import more_parts
from allsorts.sayings import check_saying, fit

REFUSED = "refused"
DONE = "done"


class Solver:
    """Layers of sayings, what was told last of them, and a log of the deeds."""

    def __init__(self, *, more=()):
        self._more = more_parts(more)
        self._layers = [[]]
        # What decide told of what stands; None if it wasn't asked since that was changed.
        self._told = None
        self._rows = []
        self._many = 0
        self._is_amid = False

    def say(self, saying):
        """Says one SAYING more, in the last layer."""
        number = self._begin("say")
        word = REFUSED
        try:
            check_saying(saying)
            fit(self.said() + [saying])
            self._layers[-1].append(saying)
            self._told = None
            word = DONE
        finally:
            self._is_amid = False
            self._rows.append((word, number))

    def push(self):
        """Begins a layer more; how many there are then."""
        number = self._begin("push")
        self._layers.append([])
        self._end(number, DONE)
        return len(self._layers)

    def pop(self):
        """Takes the last layer away; a list of the SAYINGS that went."""
        number = self._begin("pop")
        if len(self._layers) == 1:
            self._end(number, REFUSED)
            raise Nothing("pop")
        gone = self._layers.pop()
        if len(gone) > 0:
            self._told = None
        self._end(number, DONE)
        return gone

    def ask(self):
        """Whether all can hold that stands: "yes" or "no"."""
        number = self._begin("ask")
        word = REFUSED
        try:
            if self._told is None:
                self._told = decide(self.said(), more=self._more)
            word = DONE
        finally:
            self._is_amid = False
            self._rows.append((word, number))
        return self._told[0]

    def model(self):
        """The MODEL that was told last, or None."""
        return self._told[1] if self._told is not None and self._told[0] == "yes" else None

    def paper(self):
        """The PAPER that was told last, or None."""
        return self._told[1] if self._told is not None and self._told[0] == "no" else None

    def literals(self):
        """The LITERALS that were told last, or None."""
        return self._told[2] if self._told is not None and self._told[0] == "yes" else None

    def said(self):
        """A list of what stands."""
        return [saying for layer in self._layers for saying in layer]

    def depth(self):
        """How many layers there are."""
        return len(self._layers)

    def log(self):
        """A list of the rows of the log."""
        return list(self._rows)

    def is_busy(self):
        """Whether a deed is being done."""
        return self._is_amid

    def follows(self, saying):
        """Whether a SAYING follows from what stands, by the parts here: ("follows", PAPER), or ("against", MODEL)."""
        return follows(self.said(), saying)

    def least(self):
        """A LEAST LOT of what stands, by the parts here, or None where all can hold."""
        return least_lot(self.said())

    def copy(self):
        """Another one with all that is here, that goes on by itself."""
        other = Solver(more=self._more)
        other._layers = [list(layer) for layer in self._layers]
        other._told = self._told
        other._rows = list(self._rows)
        other._many = self._many
        return other

    def _begin(self, word):
        """The number of a deed that is begun; none is begun amid another one."""
        if self._is_amid:
            raise Nested()
        self._is_amid = True
        self._many += 1
        self._rows.append(("begun", self._many, word))
        return self._many

    def _end(self, number, word):
        """Tells the log that a deed is over."""
        self._is_amid = False
        self._rows.append((word, number))

    def __eq__(self, other):
        return isinstance(other, Solver) and self._layers == other._layers and self._told == other._told

    def __len__(self):
        return len(self.said())
