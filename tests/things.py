"""What several tests hand in: what is no part, no name, no text; and a hall of nothing but lists and stores."""

from loadhall.stores import Lists, Store

NO_TEXTS = [None, True, False, 0, 1, -1, 123456789, (), ("a",), ("a", "b"), [], ["a"], [["a"], None], (("a", "b"),)]

NO_PARTS = NO_TEXTS + ["", " ", "A", "a1", "abcdefghi", "a ", " a", "a\n", ".", "a.", ".a", "a.b", "\u00e9"]

NO_NAMES = NO_TEXTS + ["", " ", ".", "..", "A", "a1", "abcdefghi", "a ", "a\n", "a.", ".a", "a..b", "a.B", "a.b.c.d.e",
                       "a,b", "a.abcdefghi"]


class LeastHall:
    """Of a hall just what finders ask of it: its lists, and its stores, each made where it isn't yet."""

    def __init__(self):
        self.lists = Lists()
        self.stores = {}

    def store(self, part):
        return self.stores.setdefault(part, Store(part))


def state_of(store):
    """Tell all that a store tells of itself."""
    return store.name, store.changed, len(store), [(name, store.entry(name)) for name in store.names()]
