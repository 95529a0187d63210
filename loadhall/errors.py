"""The refusals of the program, each a class of its own straight beneath one of Python's.

They share no class of the program: whoever catches one of them catches no other.
A trail tells the rows that were refused, from the hand's own row in.
"""


class NoName(ValueError):
    """What stands where a name is asked for is none, or leads to none."""


class NoStore(ValueError):
    """What stands where a store, or a path of stores, is asked for is none."""


class NoFinder(ValueError):
    """What stands where a finder, or the number of one, is asked for is none."""


class NoHand(ValueError):
    """What stands where a hand is asked for is none, or may not begin."""


class NoLine(ValueError):
    """What stands where a line, a choice or a number is asked for is none."""


class NoBody(ValueError):
    """A text is no body; row is the number of its first row that is none, None of the whole text."""

    def __init__(self, row, *, trail=()):
        ValueError.__init__(self, f"no body, for row {row}")
        self.row = row
        self.trail = trail


class NotFound(LookupError):
    """Nothing is found under the name."""

    def __init__(self, name, *, trail=()):
        LookupError.__init__(self, f"nothing found for {name}")
        self.name = name
        self.trail = trail


class NotPack(LookupError):
    """The elder of the name is no pack."""

    def __init__(self, name, *, trail=()):
        LookupError.__init__(self, f"no pack above {name}")
        self.name = name
        self.trail = trail


class Lacking(LookupError):
    """The module hasn't the part; half tells whether it was half made."""

    def __init__(self, module, part, half, *, trail=()):
        LookupError.__init__(self, f"no {part} in {module}")
        self.module = module
        self.part = part
        self.half = half
        self.trail = trail


class Failed(ArithmeticError):
    """A row failed, by the word of a fail row, or by the word sum."""

    def __init__(self, word, *, trail=()):
        ArithmeticError.__init__(self, f"failed with {word}")
        self.word = word
        self.trail = trail


class Lost(ArithmeticError):
    """The table no longer leads the name to its module."""

    def __init__(self, name, *, trail=()):
        ArithmeticError.__init__(self, f"lost {name}")
        self.name = name
        self.trail = trail


class TooDeep(ArithmeticError):
    """At the name more stands within one another, or together, than may."""

    def __init__(self, name, *, trail=()):
        ArithmeticError.__init__(self, f"too deep at {name}")
        self.name = name
        self.trail = trail


class Stuck(ArithmeticError):
    """A row would wait for the hand where it may not wait."""

    def __init__(self, hand, *, trail=()):
        ArithmeticError.__init__(self, f"stuck behind hand {hand}")
        self.hand = hand
        self.trail = trail
