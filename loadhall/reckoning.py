"""Looks at modules, and the worths of sums."""

from loadhall.bodies import is_number
from loadhall.errors import Failed, Lacking, TooDeep
from loadhall.modules import Module

MOST_LOOKS = 4
LEAST_TOO_LONG = 10 ** 18


class Asleep(Exception):
    """A look met a waiting module, which is to be waked ahead of it."""

    def __init__(self, module):
        Exception.__init__(self, f"asleep: {module.name}")
        self.module = module


def look(worth, part, looks):
    """Tell the worth of a part of a worth, within so many looks by when."""
    if not isinstance(worth, Module):
        raise Lacking("", part, False)
    if worth.is_waiting():
        raise Asleep(worth)
    if part in worth.worths:
        return worth.worths[part]
    if part not in worth.sums:
        raise Lacking(worth.name, part, worth.is_half())
    if looks == MOST_LOOKS:
        raise TooDeep(worth.name)
    return reckon(worth, worth.sums[part], looks + 1)


def reckon_term(module, term, looks):
    """Tell the worth of a number, or of a path that begins at a name of the module."""
    if is_number(term):
        return int(term)
    first, *further = term.split(".")
    # sums that are kept aren't asked for the first part
    if first not in module.worths:
        raise Lacking(module.name, first, module.is_half())
    worth = module.worths[first]
    for part in further:
        worth = look(worth, part, looks)
    return worth


def reckon(module, text, looks):
    """Tell the worth of a sum in a module, within so many looks by when."""
    worths = [reckon_term(module, term, looks) for term in text.split("+")]
    if len(worths) == 1:
        return worths[0]
    if any([isinstance(worth, Module) for worth in worths]):
        raise Failed("sum")
    total = sum(worths)
    if abs(total) >= LEAST_TOO_LONG:
        raise Failed("sum")
    return total
