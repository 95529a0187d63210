"""What a hand is in the midst of: tasks, each begun by the one beneath it.

They are plain values, so that a hall may be marked, or told as a text, in the midst of bodies.
"""

from loadhall.modules import WHOLE, Module


class Doing:
    """A body that is done: of a module's rows the one numbered at is due, or is being done.

    how tells why it was begun: own (a hand's own rows), load, again or wake.
    """

    def __init__(self, module, rows, how):
        self.module = module
        self.rows = rows
        self.how = how
        self.at = 0

    def is_due(self):
        """Tell whether a row is left to be done."""
        return self.at < len(self.rows)


class Row:
    """The row of the body beneath that is being done.

    name is what it wants, source the module of which parts are taken, taken the number of those that were.
    """

    def __init__(self, doing):
        self.words = doing.rows[doing.at]
        self.module = doing.module
        self.stage = "begin"
        self.name = None
        self.source = None
        self.parts = ()
        self.taken = 0


class Want:
    """A name that is wanted; elder is the module had for its elder.

    late is told for a later row, which goes no further than the finders' answer.
    """

    def __init__(self, name, late):
        self.name = name
        self.late = late
        self.stage = "table"
        self.elder = None


class Hand:
    """A hand: its own names, as those of a module that no table has, and its tasks, the innermost last.

    begun counts the bodies begun while its own row is done; waits_at is the name at which it waits, or None.
    had is what the last want, or look at a part, came to; it is read at once, so a hand at rest needn't keep it.
    """

    def __init__(self, name):
        self.name = name
        self.module = Module(name, WHOLE, None)
        self.tasks = []
        self.begun = 0
        self.waits_at = None
        self.had = None

    def begin(self, rows):
        """Take rows to be done as its own."""
        self.tasks = [Doing(self.module, tuple(rows), "own")] if rows else []

    def want(self, name, late):
        """Begin to want a name."""
        self.tasks.append(Want(name, late))

    def end_want(self, module):
        """End the innermost task with the module that is had."""
        self.tasks.pop()
        self.had = module

    def end_row(self):
        """End the row that is being done, so that the next one of its body is due."""
        self.tasks.pop()
        doing = self.tasks[-1]
        doing.at += 1
