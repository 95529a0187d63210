"""How hands go on, step by step, and what becomes of what is refused."""

from loadhall.errors import Failed, Lacking, Lost, NoBody, NotFound, NotPack, Stuck, TooDeep
from loadhall.loading import end_body, give_up
from loadhall.rows import do_row, is_taken_beneath, why_lacking
from loadhall.tasks import Doing, Row
from loadhall.wants import awaited, do_want


def go_on(hall, hand):
    """Let the innermost task of a hand go on, of which no row is due."""
    task = hand.tasks[-1]
    if isinstance(task, Row):
        do_row(hall, hand, task)
    elif not isinstance(task, Doing):
        do_want(hall, hand, task)
    elif task.how == "own":
        hand.tasks.pop()
    else:
        end_body(hall, hand, task)


def why_not(hall, hand):
    """Let the innermost task go on; tell why it is refused, as a tuple, None where it isn't."""
    try:
        go_on(hall, hand)
    except NoBody as body:
        return ("NoBody", body.row)
    except NotFound as found:
        return ("NotFound", found.name)
    except NotPack as pack:
        return ("NotPack", pack.name)
    except Lacking as lacking:
        return ("Lacking", lacking.module, lacking.part, lacking.half)
    except Failed as failed:
        return ("Failed", failed.word)
    except Lost as lost:
        return ("Lost", lost.name)
    except TooDeep as deep:
        return ("TooDeep", deep.name)
    return None


def raise_refusal(why, trail):
    """Raise the error that is told as a tuple."""
    word, *fields = why
    if word == "NoBody":
        raise NoBody(fields[0], trail=trail)
    if word == "NotFound":
        raise NotFound(fields[0], trail=trail)
    if word == "NotPack":
        raise NotPack(fields[0], trail=trail)
    if word == "Lacking":
        raise Lacking(fields[0], fields[1], fields[2], trail=trail)
    if word == "Failed":
        raise Failed(fields[0], trail=trail)
    if word == "Lost":
        raise Lost(fields[0], trail=trail)
    if word == "TooDeep":
        raise TooDeep(fields[0], trail=trail)
    raise Stuck(fields[0], trail=trail)


def takes_refusal(row, why):
    """Tell whether a row takes a refusal from within it."""
    return row.words[0] == "may" and why[0] != "Stuck"


def refuse(hall, hand, why):
    """Refuse what the hand is doing, from the innermost task on outwards, till a may row takes it.

    Tells why the hand's own row is refused, and the trail; None where a may row took it.
    """
    trail = []
    while hand.tasks:
        task = hand.tasks[-1]
        if isinstance(task, Row) and takes_refusal(task, why):
            task.module.worths[task.words[3]] = 0
            hand.end_row()
            return None
        if isinstance(task, Row) and is_taken_beneath(task, why):
            why = why_lacking(task)
            trail = []
        elif isinstance(task, Doing):
            trail.append((task.module.name, task.at))
            give_up(hall, task)
        hand.tasks.pop()
    return why, tuple(reversed(trail))


def begin_row(hand):
    """Begin the next row that is due."""
    doing = hand.tasks[-1]
    if doing.how == "own":
        hand.begun = 0
    hand.tasks.append(Row(doing))


def is_due(hand):
    """Tell whether a row is due: the next one of the innermost body."""
    task = hand.tasks[-1]
    return isinstance(task, Doing) and task.is_due()


def take_step(hall, hand, patient):
    """Let a hand do one step; tell a word, and why it is refused with the trail, None where it isn't.

    A hand that isn't patient is refused where it would wait.
    """
    if not hand.tasks:
        return "ended", None
    if hand.waits_at is None:
        begin_row(hand)
    hand.waits_at = None
    while hand.tasks and not is_due(hand):
        why = why_not(hall, hand)
        if hand.waits_at is not None:
            if patient:
                return "waits", None
            why = ("Stuck", awaited(hall, hand, hand.waits_at))
            hand.waits_at = None
        refusal = None if why is None else refuse(hall, hand, why)
        if refusal is not None:
            return "refused", refusal
    return ("went" if hand.tasks else "ended"), None


def take_all_steps(hall, hand):
    """Let a hand that isn't patient do steps till it has no rows left; tell as take_step does."""
    while True:
        word, refusal = take_step(hall, hand, False)
        if word in ("ended", "refused"):
            return refusal
