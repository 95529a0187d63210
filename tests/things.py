"""What several tests hand in: what is no part, no name, no text; halls with bodies, and what is asked of them."""

import unittest

from loadhall.halls import Hall
from loadhall.images import image
from loadhall.stores import Lists, Store

NO_TEXTS = [None, True, False, 0, 1, -1, 123456789, (), ("a",), ("a", "b"), [], ["a"], [["a"], None], (("a", "b"),)]

NO_PARTS = NO_TEXTS + ["", " ", "A", "a1", "abcdefghi", "a ", " a", "a\n", ".", "a.", ".a", "a.b", "\u00e9"]

NO_NAMES = NO_TEXTS + ["", " ", ".", "..", "A", "a1", "abcdefghi", "a ", "a\n", "a.", ".a", "a..b", "a.B", "a.b.c.d.e",
                       "a,b", "a.abcdefghi"]


class LeastHall:
    """Of a hall just what finders ask of it: its lists, and its stores, each made where it isn't yet."""

    def __init__(self):
        self.lists = Lists()
        self.stores = {}

    def store(self, part):
        return self.stores.setdefault(part, Store(part))


def state_of(store):
    """Tell all that a store tells of itself."""
    return store.name, store.changed, len(store), [(name, store.entry(name)) for name in store.names()]


NO_NUMBERS = [None, True, False, "", "0", "1", (), (0,), [], [0], ["1"]]


def hall_of(bodies, *, path=("s",), packs=(), check="stamp"):
    """A hall in whose first store bodies lie, their rows parted by semicolons; packs are their names, with a blank."""
    hall = Hall(path=path, check=check)
    lay(hall, bodies, packs=packs)
    return hall


def lay(hall, bodies, *, packs=(), part="s"):
    """Lay bodies in a store of a hall, their rows parted by semicolons."""
    packs = packs.split() if isinstance(packs, str) else packs
    for name, body in bodies.items():
        hall.put(part, name, rows(body), pack=name in packs)


def rows(body):
    """The text of rows parted by semicolons."""
    return body.replace("; ", "\n")


class HallTest(unittest.TestCase):
    """What tests of halls ask again and again."""

    maxDiff = None

    def refuse(self, error, fields, call, *arguments, **named):
        """The call is refused with just that error, and with these fields, as many as are told."""
        with self.assertRaises(error) as caught:
            call(*arguments, **named)
        self.assertIs(type(caught.exception), error)
        self.assertEqual({field: getattr(caught.exception, field) for field in fields}, fields)

    def refuse_row(self, hall, body, error, *, trail=(("main", 0),), **fields):
        """The hand main is refused in these rows, with that error, these fields and that trail."""
        self.refuse(error, {**fields, "trail": trail}, hall.run, rows(body))

    def refuse_and_keep(self, hall, error, call, *arguments, **named):
        """The call is refused with just that error, and leaves the hall as it was."""
        told = image(hall)
        self.refuse(error, {}, call, *arguments, **named)
        self.assertEqual(image(hall), told)

    def check_rows(self, hall, body, notes):
        """The rows are done by the hand main, and note just that, behind main or a module's name."""
        logged = len(hall.log)
        hall.run(rows(body))
        told = [text.removeprefix("note ") for text in hall.log[logged:] if text.startswith("note ")]
        self.assertEqual(told, notes)
