"""Histories by chance (the same for the same number): deeds of a hall, each a tuple of a method and its arguments."""

import random

from loadhall import errors
from loadhall.finders import Along, Barred, Built, Other
from loadhall.names import elders
from model import Refusal

PARTS = ("a", "b", "c")
STORES = ("s", "t")
HANDS = ("main", "x", "y")
OWN = ("p", "q", "a", "b")

FIELDS = {
    "NoBody": ("row",), "NotFound": ("name",), "NotPack": ("name",), "Lacking": ("module", "part", "half"),
    "Failed": ("word",), "Lost": ("name",), "TooDeep": ("name",), "Stuck": ("hand",),
}
REFUSALS = tuple(getattr(errors, word) for word in FIELDS)


class Chance(random.Random):
    """Names, sums, rows, bodies and deeds by chance; known are the names that lie in stores."""

    def __init__(self, number):
        random.Random.__init__(self, number)
        self.known = []
        self.begun = []
        self.kinds = self.sample(KINDS, self.randrange(4, len(KINDS)))

    def part(self):
        return self.choice(OWN)

    def name(self):
        if self.known and self.random() < 0.9:
            return self.choice(self.known)
        return ".".join(self.choice(PARTS) for _ in range(self.choice((1, 1, 1, 2, 2, 3, 4))))

    def near(self):
        if self.random() < 0.6:
            return self.name()
        dots = "." * self.choice((1, 1, 1, 2, 3))
        return dots + self.choice(("", self.choice(PARTS), self.choice(PARTS)))

    def term(self):
        if self.random() < 0.3:
            return str(self.choice((0, 1, -2, 7, 999999999)))
        return ".".join(self.part() for _ in range(self.choice((1, 1, 2, 2, 3))))

    def sum(self):
        return "+".join(self.term() for _ in range(self.choice((1, 1, 1, 2, 3))))

    def row(self):
        kind = self.choice(self.kinds)
        words = {"P": self.part, "Q": self.part, "N": self.name, "M": self.near, "S": self.sum, "W": self.part}
        if kind == "show":
            return " ".join(["show", *self.sample(OWN, self.choice((1, 1, 2, 3)))])
        return " ".join(words[word]() if word in words else word for word in kind.split(" "))

    def body(self):
        return "\n".join(self.row() for _ in range(self.choice((0, 1, 1, 2, 2, 3, 4, 5))))

    def bodies(self):
        """The deeds that lay bodies ahead of all others."""
        while len(self.known) < 3:
            names = [self.name() for _ in range(self.randrange(1, 8))]
            beneath = {one for name in names for one in elders(name)}
            self.known = sorted(one for one in beneath if self.random() < 0.9)
        for name in self.known:
            pack = any(one.startswith(name + ".") for one in self.known) and self.random() < 0.9
            # mostly where its elders lie
            store = STORES[0] if self.random() < 0.8 else STORES[1]
            yield ("put", store, name, self.body(), {"pack": pack})

    def finder(self):
        kind = self.choice(("other", "other", "barred", "built", "along"))
        if kind == "other":
            return Other(self.name(), self.name())
        if kind == "barred":
            return Barred((self.name(),))
        if kind == "built":
            return Built(((self.name(), self.body()),))
        return Along()

    def deed(self, *, finders, hands):
        """One deed behind these."""
        kind = self.choice(DEEDS)
        if kind == "finder" and not finders or kind in ("begin", "step") and not hands:
            kind = "run"
        if kind == "step" and not self.begun:
            kind = "begin"
        if kind == "run":
            return ("run", self.body(), {"hand": self.choice(HANDS)})
        if kind == "worth":
            return ("worth", self.name(), self.part(), {})
        if kind == "begin":
            hand = self.choice(HANDS)
            self.begun = sorted({*self.begun, hand})
            return ("begin", hand, self.body(), {})
        if kind == "step":
            return ("step", self.choice(self.begun), {})
        if kind == "put":
            return ("put", self.choice(STORES), self.name(), self.body(), {"pack": self.random() < 0.6})
        if kind == "finder":
            return ("put_finder", self.finder(), {})
        return (kind, {})


DEEDS = ("run", "run", "run", "worth", "worth", "put", "tick", "forget", "finder")
DEEDS += ("begin",) * 8 + ("step",) * 20

KINDS = (
    "set P S", "set P S", "set P S", "del P", "note S", "note S", "fail W", "show", "when P S", "when P S", "load N",
    "load N", "load N", "load N as P", "load N as P", "later N as P", "later N as P", "later N as P", "may N as P",
    "from M take P", "from M take P", "from M take P as Q", "from M take all", "again N", "drop N",
)


def history(number, *, finders=True, hands=True, length=40):
    """Tell the deeds of a history."""
    chance = Chance(number)
    deeds = list(chance.bodies())
    return deeds + [chance.deed(finders=finders, hands=hands) for _ in range(length)]


def refusal_of(error):
    """Tell a refused row's error as a tuple."""
    word = type(error).__name__
    return (word, *[getattr(error, field) for field in FIELDS[word]]), error.trail


def do(hall, deed):
    """Do a deed in a hall, and tell what comes of it."""
    word, *arguments, named = deed
    if word == "forget":
        hall.lists.forget()
        return None
    try:
        return getattr(hall, word)(*arguments, **named)
    except REFUSALS as error:
        return refusal_of(error)
    except errors.NoHand:
        return "NoHand"


def do_in_model(model, deed):
    """Do the same in the model."""
    word, *arguments, named = deed
    if word == "forget":
        model.lists.forget()
        return None
    if word == "tick":
        model.clock += 1
        return model.clock
    if word == "put":
        part, name, text = arguments
        model.store(part).put(name, text, at=model.clock, **named)
        return None
    if word == "put_finder":
        model.finders = (*arguments, *model.finders)
        return None
    if word in ("run", "begin"):
        hand = named["hand"] if word == "run" else arguments[0]
        if hand in model.hands():
            return "NoHand"
    if word == "step" and arguments[0] not in model.movers:
        return "NoHand"
    try:
        return getattr(model, word)(*arguments, **named)
    except Refusal as refusal:
        return refusal.told, tuple(reversed(refusal.trail))


def all_told(hall):
    """Tell all that a hall tells of itself."""
    hands = [hand for hand in HANDS if hand in (hall.by_hand if hasattr(hall, "by_hand") else hall.movers)]
    return (
        hall.clock, tuple(hall.log), hall.told(), hall.hands(), hall.forms.made, hall.forms.kept,
        [hall.names(row.split(" ")[0]) for row in hall.told()], [hall.names(hand, hand=True) for hand in hands],
    )
