"""Stores of bodies, and the kept lists of the names that lie in them."""

from loadhall.errors import NoBody, NoName, NoStore, NotFound
from loadhall.names import is_name, is_part


def check_name(name):
    """Refuse what is no name."""
    if not is_name(name):
        raise NoName("no name for a body to lie under")


class Store:
    """Bodies under names, each a tuple of its text, whether it is a pack's, and the at of its put."""

    def __init__(self, name):
        if not is_part(name):
            raise NoStore("no part to name a store by")
        self.name = name
        self.changed = 0
        self.entries = {}

    def __len__(self):
        """Tell how many names lie here."""
        return len(self.entries)

    def put(self, name, text, *, pack=False, at=0):
        """Lay a body under a name, in the place of what lay there."""
        check_name(name)
        # a store takes whatever text: whether it is a body is found where it is read
        if not isinstance(text, str):
            raise NoBody(None)
        self.entries[name] = (text, pack, at)
        self.changed = at

    def take(self, name, *, at=0):
        """Take the body under a name away, and tell its text."""
        check_name(name)
        if name not in self.entries:
            raise NotFound(name)
        text = self.entries[name][0]
        del self.entries[name]
        self.changed = at
        return text

    def entry(self, name):
        """Tell what lies under a name, None where nothing does."""
        check_name(name)
        return self.entries.get(name)

    def names(self):
        """Tell the rising list of the names that lie here."""
        return sorted(self.entries)


class Lists:
    """Of each store, by its name, what changed was when it was last listed, and its names then."""

    def __init__(self):
        self.by_store = {}

    def listed(self, store):
        """Tell the store's names as they were when it was last listed anew."""
        kept = self.by_store.get(store.name)
        if kept is None or kept[0] != store.changed:
            kept = (store.changed, tuple(store.names()))
            self.by_store[store.name] = kept
        return list(kept[1])

    def forget(self):
        """Let all stores be listed anew."""
        self.by_store = {}
