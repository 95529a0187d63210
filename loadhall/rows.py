"""The rows of bodies, and of hands: what each of them does.

A row goes on by stages, from one want of its to the next; its first stage is begin.
"""

from loadhall.errors import Failed, Lacking, Lost, NoName, NotFound
from loadhall.loading import begin_anew, wake
from loadhall.modules import Module, worth_text
from loadhall.names import elders, is_name, is_part, last_of, near_name
from loadhall.reckoning import Asleep, look, reckon


def set_part(hall, hand, row):
    """set P S"""
    row.module.worths[row.words[1]] = reckon(row.module, row.words[2], 0)
    hand.end_row()


def del_part(hall, hand, row):
    """del P"""
    part = row.words[1]
    if part not in row.module.worths:
        raise Lacking(row.module.name, part, row.module.is_half())
    del row.module.worths[part]
    hand.end_row()


def note_sum(hall, hand, row):
    """note S"""
    worth = reckon(row.module, row.words[1], 0)
    hall.texts.append(f"note {row.module.name} {worth_text(worth)}")
    hand.end_row()


def fail_row(hall, hand, row):
    """fail W"""
    raise Failed(row.words[1])


def show_parts(hall, hand, row):
    """show P Q .."""
    module = row.module
    module.shown = row.words[1:]
    hand.end_row()


def keep_sum(hall, hand, row):
    """when P S"""
    row.module.sums[row.words[1]] = row.words[2]
    hand.end_row()


def first_module(hall, name):
    """Tell the module that the table has for the first part of a name."""
    first = elders(name)[0]
    if first not in hall.table:
        raise Lost(first)
    return hall.table[first]


def walk_on(hall, worth, beginning):
    """Tell the worth that the last part of a beginning of a name has in the worth of what is ahead of it."""
    part = last_of(beginning)
    if isinstance(worth, Module):
        if worth.is_waiting():
            raise Asleep(worth)
        if worth.has(part):
            return look(worth, part, 0)
    if beginning in hall.table:
        return hall.table[beginning]
    return look(worth, part, 0)


def walk(hall, name):
    """Tell the worth to which a name leads, from the module of its first part on."""
    worth = first_module(hall, name)
    for beginning in elders(name)[1:]:
        worth = walk_on(hall, worth, beginning)
    return worth


def load_name(hall, hand, row):
    """load N, load N as P, may N as P"""
    name = row.words[1]
    if row.stage == "begin":
        row.stage = "had"
        hand.want(name, False)
        return
    if len(row.words) == 2:
        row.module.worths[elders(name)[0]] = first_module(hall, name)
    else:
        row.module.worths[row.words[3]] = walk(hall, name)
    hand.end_row()


def load_late(hall, hand, row):
    """later N as P"""
    if row.stage == "begin":
        row.stage = "late"
        hand.want(row.words[1], True)
    elif row.stage != "late":
        load_name(hall, hand, row)
    elif hand.had is None:
        row.stage = "had"
        hand.want(row.words[1], False)
    else:
        row.module.worths[row.words[3]] = hand.had
        hand.end_row()


def near_in(module, word):
    """Tell the name that a word means in the body of a module."""
    try:
        return near_name(word, base=module.name, pack=module.places is not None)
    except NoName:
        raise NotFound(word) from None


def parts_asked(row):
    """Tell the parts that a from row takes, as they are by now."""
    if len(row.words) == 4 and row.words[3] == "all":
        source = row.source
        return tuple(sorted(source.worths)) if source.shown is None else source.shown
    return (row.words[3],)


def name_beneath(row):
    """Tell the name that is beneath the one of a from row by the part that is being taken."""
    return f"{row.name}.{row.parts[row.taken]}"


def end_taking(row, worth):
    """Set what was taken; the next part is due."""
    part = row.words[5] if len(row.words) == 6 else row.parts[row.taken]
    row.module.worths[part] = worth
    row.taken += 1
    row.stage = "take"


def take_part(hall, hand, row):
    """Take the next part of the source, or want what is beneath it; end the row where no part is left."""
    if row.taken == len(row.parts):
        hand.end_row()
        return
    source = row.source
    part = row.parts[row.taken]
    beneath = name_beneath(row)
    if source.is_waiting():
        raise Asleep(source)
    if source.has(part) or source.places is None or not is_name(beneath):
        end_taking(row, look(source, part, 0))
    else:
        row.stage = "beneath"
        hand.want(beneath, False)


def take_from(hall, hand, row):
    """from M take P, from M take P as Q, from M take all"""
    if row.stage == "begin":
        row.name = near_in(row.module, row.words[1])
        row.stage = "had"
        hand.want(row.name, False)
    elif row.stage == "had":
        row.source = hand.had
        row.stage = "waked"
        if row.source.is_waiting():
            wake(hall, hand, row.source)
    elif row.stage == "waked":
        row.parts = parts_asked(row)
        row.stage = "take"
    elif row.stage == "take":
        take_part(hall, hand, row)
    else:
        end_taking(row, hand.had)


def load_again(hall, hand, row):
    """again N"""
    name = row.words[1]
    if row.stage != "begin":
        hand.end_row()
        return
    module = hall.table.get(name)
    if module is None or module.name != name or module.is_waiting():
        raise NotFound(name)
    row.stage = "had"
    if module.is_half():
        hand.want(name, False)
    else:
        begin_anew(hall, hand, module, "again")


def drop_name(hall, hand, row):
    """drop N"""
    name = row.words[1]
    if name not in hall.table:
        raise NotFound(name)
    del hall.table[name]
    hand.end_row()


def look_at(hall, hand, row):
    """look N P, which no body has: what a hall is asked as the worth of a part"""
    part = row.words[2]
    if row.stage == "begin":
        row.source = hall.table[row.words[1]]
        row.stage = "look"
    source = row.source
    if source.is_waiting():
        raise Asleep(source)
    # what is no part may be no key either
    if not is_part(part):
        raise Lacking(source.name, part, source.is_half())
    hand.had = look(source, part, 0)
    hand.end_row()


ACTIONS = {
    "set": set_part,
    "del": del_part,
    "note": note_sum,
    "fail": fail_row,
    "show": show_parts,
    "when": keep_sum,
    "load": load_name,
    "may": load_name,
    "later": load_late,
    "from": take_from,
    "again": load_again,
    "drop": drop_name,
    "look": look_at,
}


def do_row(hall, hand, row):
    """Let a row go on by one stage; where a look of its meets a waiting module, that is waked first."""
    action = ACTIONS[row.words[0]]
    try:
        action(hall, hand, row)
    except Asleep as asleep:
        wake(hall, hand, asleep.module)


def is_taken_beneath(row, why):
    """Tell whether a row is refused for what is beneath the name of which it takes a part."""
    return row.stage == "beneath" and why == ("NotFound", name_beneath(row))


def why_lacking(row):
    """Tell why a row is refused whose part isn't found beneath the name either."""
    source = row.source
    return ("Lacking", source.name, row.parts[row.taken], source.is_half())
