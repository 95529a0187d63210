"""Wanting a name: how a hand comes to a module."""

from loadhall.errors import NotFound, NotPack, TooDeep
from loadhall.loading import ask_finders, begin_body, read_found, wake
from loadhall.modules import HALF, WAITING, Module
from loadhall.names import elder_of, is_name, last_of
from loadhall.tasks import Want


def doer_at(hall, name):
    """Tell the hand that does the body of the module that the table has for the name, None where none does."""
    return hall.table[name].doer if name in hall.table else None


def awaited(hall, hand, name):
    """Tell the hand for which this one has to wait at a name, None where it needn't."""
    first = doer_at(hall, name)
    seen = set()
    one = first
    # waits that other names brought about may close a ring in which this hand isn't
    while one is not None and one not in seen:
        if one == hand.name:
            return None
        seen.add(one)
        waits_at = hall.by_hand[one].waits_at
        one = None if waits_at is None else doer_at(hall, waits_at)
    return first


def wants_other_for(hand, name):
    """Tell whether the hand wants the name already, and is wanting another name for it."""
    wants = [task for task in hand.tasks if isinstance(task, Want)]
    return any([task.name == name and task.stage == "other" for task in wants])


def go_to_table(hall, hand, want):
    """See whether the table has the name; else go on to its elder, or to the finders."""
    name = want.name
    if name in hall.table:
        if want.late:
            # nothing is had: the row goes on as a load row
            hand.end_want(None)
        elif awaited(hall, hand, name) is not None:
            hand.waits_at = name
        else:
            hand.end_want(hall.table[name])
        return
    if wants_other_for(hand, name):
        raise TooDeep(name)
    elder = elder_of(name)
    if elder is None:
        find_body(hall, hand, want, hall.path)
    else:
        want.stage = "elder"
        hand.want(elder, False)


def go_to_elder(hall, hand, want):
    """Take the elder that is had, and wake it where it waits."""
    want.elder = hand.had
    want.stage = "waked"
    if want.elder.is_waiting():
        wake(hall, hand, want.elder)


def go_behind_elder(hall, hand, want):
    """Go on to the finders, where the elder hasn't brought the name itself."""
    if want.name in hall.table:
        want.stage = "table"
        return
    if want.elder.places is None:
        raise NotPack(want.name)
    find_body(hall, hand, want, want.elder.places)


def find_body(hall, hand, want, places):
    """Ask the finders, and do what they tell."""
    found = ask_finders(hall, want.name, places)
    if want.late:
        hand.end_want(None if found[0] == "other" else put_off_module(hall, want))
    elif found[0] == "other":
        if not is_name(found[1]):
            raise NotFound(want.name)
        want.stage = "other"
        hand.want(found[1], False)
    else:
        load_body(hall, hand, want, found)


def put_off_module(hall, want):
    """Make a waiting module under the name, and tell it."""
    module = Module(want.name, WAITING, None)
    hall.table[want.name] = module
    if want.elder is not None:
        elder = want.elder
        elder.worths[last_of(want.name)] = module
    return module


def load_body(hall, hand, want, found):
    """Make a module under the name, and begin its body."""
    rows = read_found(hall, hand, want.name, found)
    module = Module(want.name, HALF, found[2])
    hall.table[want.name] = module
    want.stage = "body"
    begin_body(hall, hand, module, rows, found[2], "load")


def go_behind_other(hall, hand, want):
    """Let the table lead the name to the module of the other name."""
    hall.table[want.name] = hand.had
    hand.end_want(hand.had)


def go_behind_body(hall, hand, want):
    """Take the module whose body is done."""
    hand.end_want(hand.had)


STAGES = {
    "table": go_to_table,
    "elder": go_to_elder,
    "waked": go_behind_elder,
    "other": go_behind_other,
    "body": go_behind_body,
}


def do_want(hall, hand, want):
    """Let a want go on by one stage."""
    stage = STAGES[want.stage]
    stage(hall, hand, want)
