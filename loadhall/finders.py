"""Finders: each tells of a name where its body is, or what else is known of it, None where nothing is."""

from loadhall.errors import NoFinder
from loadhall.names import is_name


def is_named_text(thing):
    """Tell whether a thing is a tuple of a name and a text."""
    return isinstance(thing, tuple) and len(thing) == 2 and is_name(thing[0]) and isinstance(thing[1], str)


class Along:
    """Looks along the stores whose names it is told."""

    def __init__(self):
        self.word = "along"

    def find(self, name, places, hall):
        """Tell the first store in which the body lies, else the stores over which the name is spread."""
        spread = []
        for place in places:
            store = hall.store(place)
            # a store is listed only when it is come to: what is listed later may be another list
            listed = hall.lists.listed(store)
            entry = store.entry(name) if name in listed else None
            if entry is not None:
                return ("body", place, (place,) if entry[1] else None)
            if any([other.startswith(name + ".") for other in listed]):
                spread.append(place)
        return ("spread", None, tuple(spread)) if spread else None


class Built:
    """Has bodies of its own, tuples of a name and a text."""

    def __init__(self, bodies):
        if not isinstance(bodies, tuple) or not all([is_named_text(one) for one in bodies]):
            raise NoFinder("no tuple of tuples of a name and a text")
        self.word = "built"
        self.bodies = bodies

    def find(self, name, places, hall):
        """Tell the text of the first body under the name."""
        for one, text in self.bodies:
            if one == name:
                return ("built", text, None)
        return None


class Other:
    """Leads a name, and all names beneath it, to another one."""

    def __init__(self, old, new):
        if not is_name(old) or not is_name(new):
            raise NoFinder("no two names")
        self.word = "other"
        self.old = old
        self.new = new

    def find(self, name, places, hall):
        """Tell the name for which the name stands."""
        if name == self.old or name.startswith(self.old + "."):
            # what comes may have too many parts for a name: whoever wants it refuses it
            return ("other", self.new + name[len(self.old):], None)
        return None


class Barred:
    """Bars names."""

    def __init__(self, names):
        if not isinstance(names, tuple) or not all([is_name(name) for name in names]):
            raise NoFinder("no tuple of names")
        self.word = "barred"
        self.barred = names

    def find(self, name, places, hall):
        """Tell whether the name is barred."""
        return ("barred", None, None) if name in self.barred else None
