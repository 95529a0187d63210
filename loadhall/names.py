"""Parts and names of modules, and what a name with dots ahead means in a body."""

from loadhall.errors import NoName

MOST_LETTERS = 8
MOST_PARTS = 4
MOST_DOTS = 4


def is_part(thing):
    """Tell of anything whether it is a text of one to eight small letters."""
    if not isinstance(thing, str) or len(thing) > MOST_LETTERS:
        return False
    # isalpha and islower know letters beyond a to z, so isascii stands beside them
    return thing.isascii() and thing.isalpha() and thing.islower()


def is_name(thing):
    """Tell of anything whether it is one to four parts with a dot between."""
    if not isinstance(thing, str):
        return False
    parts = thing.split(".")
    return len(parts) <= MOST_PARTS and all([is_part(part) for part in parts])


def elder_of(name):
    """Tell a name without its last part, None of a part."""
    return name.rpartition(".")[0] or None


def last_of(name):
    """Tell the last part of a name."""
    return name.rpartition(".")[2]


def elders(name):
    """Tell the list of a name's beginnings as names, the name itself last."""
    parts = name.split(".")
    return [".".join(parts[:many]) for many in range(1, len(parts) + 1)]


def dots_ahead(text):
    """Tell how many dots stand at the beginning of a text."""
    return len(text) - len(text.lstrip("."))


def is_near(thing):
    """Tell of anything whether it is a name, with or without one to four dots ahead, or such dots alone."""
    if not isinstance(thing, str):
        return False
    dots = dots_ahead(thing)
    behind = thing[dots:]
    return dots <= MOST_DOTS and (is_name(behind) or (behind == "" and dots > 0))


def near_name(name, *, base, pack=False):
    """Tell the name that a name, perhaps with dots ahead, means in the body of module base."""
    if not is_near(name):
        raise NoName("no name, with dots ahead or without")
    dots = dots_ahead(name)
    if dots == 0:
        return name
    if not is_name(base):
        raise NoName("no name to begin at")
    parts = base.split(".")
    # the first dot of a pack is the pack itself
    left = len(parts) - dots + (1 if pack else 0)
    if left < 1:
        raise NoName(f"no such elder of {base}: {name}")
    behind = name[dots:]
    told = ".".join(parts[:left] + ([behind] if behind else []))
    if not is_name(told):
        raise NoName(f"too many parts: {told}")
    return told
