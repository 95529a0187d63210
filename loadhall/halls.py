"""Halls: stores, finders, loaded modules, and the hands that load them."""

from loadhall.bodies import read_rows
from loadhall.checks import is_number_below, is_number_from
from loadhall.errors import NoFinder, NoHand, NoLine, NoStore, NotFound
from loadhall.finders import Along, Barred, Built, Other
from loadhall.forms import CHECK, Forms
from loadhall.modules import worth_text
from loadhall.names import is_name, is_part
from loadhall.states import bring, state_of
from loadhall.steps import raise_refusal, take_all_steps, take_step
from loadhall.stores import Lists, Store
from loadhall.tasks import Hand

MOST_HANDS = 6
MOST_HAND_ROWS = 40


def check_path(path):
    """Refuse what is no tuple of parts, none of them twice."""
    if not isinstance(path, tuple) or not all([is_part(part) for part in path]):
        raise NoStore("no tuple of parts")
    if len(set(path)) != len(path):
        raise NoStore("a part twice in a path")


def check_finder(finder):
    """Refuse what is none of the four finders."""
    if not isinstance(finder, (Along, Built, Other, Barred)):
        raise NoFinder("none of the four finders")


class Hall:
    """A hall; table leads names to modules, by_hand tells the hands ever begun by their names.

    texts are those that the log is still to have: a tuple that grew with each of them would be slow.
    """

    def __init__(self, *, path=(), check=CHECK):
        check_path(path)
        self.clock = 0
        self.lists = Lists()
        self.forms = Forms(check=check)
        self.finders = (Along(),)
        self.path = path
        self.log = ()
        self.stores = {part: Store(part) for part in path}
        self.table = {}
        self.by_hand = {}
        self.marks = []
        self.texts = []

    def tick(self, by=1):
        """Let the clock go on, and tell it."""
        if not is_number_from(by, 1):
            raise NoLine("no whole number from 1 on")
        self.clock += by
        return self.clock

    def store_or_new(self, part):
        """Tell the store, or a new one that isn't the hall's as yet."""
        return self.stores[part] if is_part(part) and part in self.stores else Store(part)

    def store(self, part):
        """Tell a store, made where there is none yet."""
        found = self.store_or_new(part)
        self.stores[part] = found
        return found

    def put(self, part, name, text, *, pack=False):
        """Lay a body in a store."""
        found = self.store_or_new(part)
        found.put(name, text, pack=pack, at=self.clock)
        # a put that is refused makes no store
        self.stores[part] = found

    def take(self, part, name):
        """Take a body from a store, and tell its text."""
        return self.store_or_new(part).take(name, at=self.clock)

    def put_finder(self, finder, *, at=0):
        """Put a finder ahead of the one with that number."""
        check_finder(finder)
        if not is_number_below(at, len(self.finders) + 1):
            raise NoFinder("no number of a finder to stand ahead of")
        self.finders = (*self.finders[:at], finder, *self.finders[at:])

    def take_finder(self, at=0):
        """Take the finder with that number out, and tell it."""
        if not is_number_below(at, len(self.finders)):
            raise NoFinder("no number of a finder")
        finder = self.finders[at]
        self.finders = self.finders[:at] + self.finders[at + 1:]
        return finder

    def set_path(self, path):
        """Look along other stores from now on."""
        check_path(path)
        self.path = path
        for part in path:
            self.store(part)

    def end_texts(self):
        """Bring the texts of what was done into the log."""
        self.log = self.log + tuple(self.texts)
        self.texts = []

    def do_all(self, hand):
        """Let a hand do all its rows at once."""
        refusal = take_all_steps(self, hand)
        self.end_texts()
        if refusal is not None:
            raise_refusal(refusal[0], refusal[1])

    def run(self, text, *, hand="main"):
        """Let a hand do the rows of a text, and tell the names that are set in its own names then."""
        self.begin(hand, text)
        doer = self.by_hand[hand]
        self.do_all(doer)
        return sorted(doer.module.worths)

    def worth(self, name, part):
        """Tell the worth that a part of a module of the table has, which is waked where it is waiting."""
        if not is_name(name) or name not in self.table:
            raise NotFound(name)
        looker = Hand("")
        looker.begin([("look", name, part)])
        self.do_all(looker)
        return looker.had if isinstance(looker.had, int) else worth_text(looker.had)

    def told(self):
        """Tell the names of the table, each with the state of its module."""
        return [f"{name} {self.table[name].state}" for name in sorted(self.table)]

    def names(self, name, *, hand=False):
        """Tell the names of a module of the table, or of a hand, each with its worth."""
        if hand:
            module = self.hand_of(name).module
        elif is_name(name) and name in self.table:
            module = self.table[name]
        else:
            raise NotFound(name)
        return [f"{part} = {worth_text(module.worths[part])}" for part in sorted(module.worths)]

    def hand_of(self, name):
        """Tell the hand that was begun under a name."""
        if not is_part(name) or name not in self.by_hand:
            raise NoHand("no hand that was begun")
        return self.by_hand[name]

    def begin(self, hand, text):
        """Give a hand rows to be done."""
        if not is_part(hand):
            raise NoHand("no part to name a hand by")
        if hand not in self.by_hand and len(self.by_hand) == MOST_HANDS:
            raise NoHand("too many hands")
        doer = self.by_hand[hand] if hand in self.by_hand else Hand(hand)
        if doer.tasks:
            raise NoHand("a hand that has rows left")
        doer.begin(read_rows(text, MOST_HAND_ROWS))
        self.by_hand[hand] = doer

    def step(self, hand):
        """Let a hand do one step, and tell how it went."""
        told, refusal = take_step(self, self.hand_of(hand), True)
        self.end_texts()
        if refusal is not None:
            raise_refusal(refusal[0], refusal[1])
        return told

    def hands(self):
        """Tell the hands that have rows left."""
        return [name for name in sorted(self.by_hand) if self.by_hand[name].tasks]

    def mark(self):
        """Keep all that the hall is, and tell the number by which it is kept."""
        self.marks.append((state_of(self), dict(self.stores), self.finders))
        return len(self.marks) - 1

    def back(self, number):
        """Bring all back as it was at a mark, and forget the marks behind it."""
        if not is_number_below(number, len(self.marks)):
            raise NoLine("no number of a mark")
        state, stores, finders = self.marks[number]
        bring(self, state, stores)
        self.finders = finders
        self.marks = self.marks[:number + 1]


def bare_hall(hall, finders):
    """Make a hall with the same stores and path, and these finders, with nothing loaded, listed or kept."""
    bare = Hall(path=hall.path, check=hall.forms.check)
    bare.stores = dict(hall.stores)
    bare.finders = finders
    return bare
