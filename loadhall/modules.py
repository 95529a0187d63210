"""Modules: their names with worths, and how far they are loaded."""

HALF = "half"
WHOLE = "whole"
WAITING = "waiting"


class Module:
    """A module; rows are those last begun of its body, doer the name of the hand that does it, or None."""

    def __init__(self, name, state, places):
        self.name = name
        self.state = state
        self.places = places
        self.worths = {}
        self.shown = None
        self.sums = {}
        self.rows = ()
        self.doer = None

    def is_half(self):
        """Tell whether its body is being done, or was left half done."""
        return self.state == HALF

    def is_waiting(self):
        """Tell whether it is put off till the first look."""
        return self.state == WAITING

    def has(self, part):
        """Tell whether a look finds the part: among its names, or as a sum that is kept for it."""
        return part in self.worths or part in self.sums


def worth_text(worth):
    """Tell a worth as a text, a module's name between < and >."""
    return f"<{worth.name}>" if isinstance(worth, Module) else str(worth)
