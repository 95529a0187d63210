"""Made forms: the rows of bodies, kept from one reading to the next."""

from loadhall.bodies import read_body
from loadhall.errors import NoLine, NotFound
from loadhall.names import is_name

CHECK = "stamp"
CHECKS = ("stamp", "sum")


def entry_of(store, name):
    """Tell what lies in the store under a name, None where nothing does."""
    # under what is no name nothing lies, where the store itself refuses to be asked
    return store.entry(name) if is_name(name) else None


class Forms:
    """Of stores' names and names of bodies the text, the stamp and the rows that were read."""

    def __init__(self, *, check=CHECK):
        if check not in CHECKS:
            raise NoLine("no way to check kept forms")
        self.check = check
        self.made = 0
        self.kept = 0
        self.by_place = {}

    def is_given(self, place, entry):
        """Tell whether what is kept for the place would be given where that entry lies there."""
        if place not in self.by_place:
            return False
        text, stamp, _ = self.by_place[place]
        if self.check == "sum":
            return text == entry[0]
        return stamp == entry[2] and len(text) == len(entry[0])

    def form(self, store, name):
        """Tell the rows of the body that lies there, as they are kept or else read anew."""
        entry = entry_of(store, name)
        if entry is None:
            raise NotFound(name)
        place = (store.name, name)
        if not self.is_given(place, entry):
            # read ahead of all else, so that a body that is refused leaves all as it was
            rows = read_body(entry[0])
            self.by_place[place] = (entry[0], entry[2], tuple(rows))
            self.made += 1
            self.kept = len(self.by_place)
        return list(self.by_place[place][2])

    def drop(self, store, name):
        """Forget what is kept for a name, and tell whether there was something."""
        if not is_name(name) or (store.name, name) not in self.by_place:
            return False
        del self.by_place[(store.name, name)]
        self.kept = len(self.by_place)
        return True

    def is_stale(self, place, entry):
        """Tell whether a kept form would be given that isn't the one of that entry's text."""
        # unlike texts have unlike rows, or can't be read: so the text that was read tells it
        return self.is_given(place, entry) and self.by_place[place][0] != entry[0]

    def stale(self, store):
        """Tell the rising list of the store's names of which a form would be given that isn't theirs."""
        told = []
        for part, name in self.by_place:
            entry = store.entry(name)
            if part == store.name and entry is not None and self.is_stale((part, name), entry):
                told.append(name)
        return sorted(told)
