"""How a body is found, begun, ended and given up."""

from loadhall.bodies import read_body
from loadhall.errors import Lost, NotFound, TooDeep
from loadhall.modules import HALF, WAITING, WHOLE
from loadhall.names import elder_of, last_of
from loadhall.tasks import Doing

MOST_BODIES = 200


def ask_finders(hall, name, places):
    """Tell the first answer of the hall's finders; refused where there is none, or the name is barred."""
    for finder in hall.finders:
        found = finder.find(name, places, hall)
        if found is not None:
            break
    else:
        raise NotFound(name)
    if found[0] == "barred":
        raise NotFound(name)
    return found


def find_known(hall, name):
    """Tell where the body of a module that the hall knows lies now, and that it is no other's name."""
    elder = elder_of(name)
    places = hall.path
    if elder is not None:
        places = hall.table[elder].places if elder in hall.table else None
    if places is None:
        raise NotFound(name)
    found = ask_finders(hall, name, places)
    if found[0] == "other":
        raise NotFound(name)
    return found


def read_found(hall, hand, name, found):
    """Tell the rows of a body that was found, where the hand may begin one more."""
    word, where, _ = found
    rows = []
    if word == "body":
        rows = hall.forms.form(hall.store(where), name)
    elif word == "built":
        rows = read_body(where)
    # behind the reading, so that a body that can't be read is refused as such
    if hand.begun >= MOST_BODIES:
        raise TooDeep(name)
    return tuple(rows)


def begin_body(hall, hand, module, rows, places, how):
    """Let the hand begin the rows of a module's body."""
    hand.begun += 1
    module.state = HALF
    module.places = places
    module.rows = rows
    module.doer = hand.name
    hall.texts.append(f"begin {module.name}")
    hand.tasks.append(Doing(module, rows, how))


def begin_anew(hall, hand, module, how):
    """Find, read and begin the body of a module that is there already."""
    found = find_known(hall, module.name)
    rows = read_found(hall, hand, module.name, found)
    begin_body(hall, hand, module, rows, found[2], how)


def wake(hall, hand, module):
    """Begin the body of a waiting module."""
    begin_anew(hall, hand, module, "wake")


def give_up(hall, doing):
    """Leave the module of a refused body as such a body leaves it."""
    if doing.how == "own":
        return
    module = doing.module
    hall.texts.append(f"refuse {module.name}")
    module.doer = None
    if doing.how == "load":
        leading = [name for name in hall.table if hall.table[name] == module]
        for name in leading:
            del hall.table[name]
    elif doing.how == "again":
        module.state = WHOLE
    else:
        module.state = WAITING
        module.worths = {}
        module.sums = {}
        module.shown = None
        module.places = None


def end_body(hall, hand, doing):
    """End a body behind its last row."""
    module = doing.module
    name = module.name
    if hall.table.get(name) != module:
        give_up(hall, doing)
        # the refusal is that of the row beneath, so the body is no task any more
        hand.tasks.pop()
        raise Lost(name)
    module.state = WHOLE
    module.doer = None
    hall.texts.append(f"end {name}")
    elder = elder_of(name)
    if elder in hall.table:
        above = hall.table[elder]
        above.worths[last_of(name)] = module
    hand.end_want(module)
