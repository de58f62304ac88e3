"""The errors of the package, one class for each kind of failure."""


class BadValue(ValueError):
    """Whatever was handed in isn't of the kind that is wanted; `what` tells which argument it is."""

    def __init__(self, what):
        ValueError.__init__(self, what)
        self.what = what


class BadText(BadValue):
    """A text can't be read; `place` is that of the first sign that can't stand there, from 0."""

    def __init__(self, place):
        BadValue.__init__(self, "text")
        self.place = place


class NoFit(LookupError):
    """Sayings don't fit; `what` is "name" or "call", `name` the first one that is used in two ways."""

    def __init__(self, what, name):
        LookupError.__init__(self, what, name)
        self.what = what
        self.name = name


class TooGreat(OverflowError):
    """There is more than may be decided; `about` tells of what."""

    def __init__(self, about):
        OverflowError.__init__(self, about)
        self.about = about


class Nothing(IndexError):
    """There is nothing of what was asked for; `about` tells what was."""

    def __init__(self, about):
        IndexError.__init__(self, about)
        self.about = about


class Nested(RuntimeError):
    """A deed was begun amid another one."""

    def __init__(self):
        RuntimeError.__init__(self)


class BadPart(TypeError):
    """A part told what it must not; `part` is its word."""

    def __init__(self, part):
        TypeError.__init__(self, part)
        self.part = part


class Gone(Exception):
    """Raised by parts that are handed in; `why` is whatever they tell of it."""

    def __init__(self, why=""):
        Exception.__init__(self, why)
        self.why = why
