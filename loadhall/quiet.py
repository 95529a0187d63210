"""Which names may be put off: the loud ones, why they are loud, and the quiet ones."""

from loadhall.bodies import read_rows
from loadhall.errors import Failed, Lacking, Lost, NoBody, NotFound, NotPack, Stuck, TooDeep
from loadhall.finders import Along
from loadhall.halls import MOST_HAND_ROWS, bare_hall
from loadhall.lying import Lying
from loadhall.names import elders

PLAIN_WORDS = ("set", "show", "load")


def is_plain(row):
    """Tell whether a row is one that a quiet body may have."""
    return row[0] in PLAIN_WORDS or (row[0] == "from" and row[3:] != ("all",))


def part_set(row):
    """Tell the part that a plain row sets, None where it sets none."""
    if row[0] == "set":
        return row[1]
    if row[0] == "load":
        return row[3] if len(row) == 4 else elders(row[1])[0]
    return row[-1] if row[0] == "from" else None


def row_bar(lying, name):
    """Tell the word row, and the first row that isn't plain, None of a body that can't be read."""
    rows = lying.rows_under(name)
    if rows is None:
        return ("row", None)
    for at, row in enumerate(rows):
        if not is_plain(row):
            return ("row", at)
    return None


def lacks_bar(lying, name):
    """Tell the word lacks, and the first want that doesn't lie."""
    for want in lying.wants(name):
        if not lying.lies(want):
            return ("lacks", want)
    return None


def shadow_bar(lying, name):
    """Tell the word shadow, and the first part that a pack sets and that lies beneath it."""
    if lying.places_of(name) is None:
        return None
    for row in lying.rows_under(name):
        part = part_set(row)
        if part is not None and lying.lies(f"{name}.{part}"):
            return ("shadow", part)
    return None


def bar_of(lying, name):
    """Tell why a body is loud by itself: a word, and what stands beside it; None where it isn't."""
    return row_bar(lying, name) or lacks_bar(lying, name) or shadow_bar(lying, name)


def comes_to_itself(lying, bars, name):
    """Tell whether the wants of a name lead to itself, over names that are not loud by themselves."""
    reached = {}
    left = lying.wants(name)
    while left:
        want = left.pop()
        if want not in reached:
            reached[want] = True
            # what is wanted on the way lies, as else the one that wants it would be barred
            left.extend(lying.wants(want) if bars[want] is None else [])
    return name in reached


def is_refused(hall, name):
    """Tell whether a bare hall refuses to load the name."""
    bare = bare_hall(hall, (Along(),))
    try:
        bare.run(f"load {name}")
    except (NoBody, NotFound, NotPack, Lacking, Failed, Lost, TooDeep, Stuck):
        return True
    return False


def late_bar(hall, lying, words, name):
    """Tell why a body is loud by its wants, or by loading it; words tells of each want why it is loud."""
    for want in lying.wants(name):
        if words[want] is not None:
            return ("loud", want)
    return ("refused", None) if is_refused(hall, name) else None


def words_of(hall):
    """Tell of each name that lies why it is loud: a word, and what stands beside it; None of a quiet one."""
    lying = Lying(hall)
    bars = {name: bar_of(lying, name) for name in lying.all_names()}
    words = {}
    for name in bars:
        ring = bars[name] is None and comes_to_itself(lying, bars, name)
        if ring or bars[name] is not None:
            words[name] = ("ring", name) if ring else bars[name]
    left = [name for name in bars if name not in words]
    # none of these comes to itself, so there is always one whose wants are all told
    while left:
        ready = [name for name in left if all([want in words for want in lying.wants(name)])]
        for name in ready:
            words[name] = late_bar(hall, lying, words, name)
        left = [name for name in left if name not in words]
    return words


def loud(hall):
    """Tell the loud names that lie, rising, each with its word and what stands beside it."""
    words = words_of(hall)
    return [(name, *words[name]) for name in sorted(words) if words[name] is not None]


def quiet(hall):
    """Tell the rising list of all other names that lie."""
    words = words_of(hall)
    return [name for name in sorted(words) if words[name] is None]


def put_off_row(row, names):
    """Tell a row, or the later row in its place where it loads one of these names as a part."""
    if row[0] == "load" and len(row) == 4 and row[1] in names:
        return ("later", *row[1:])
    return row


def put_off(hall, text):
    """Tell the text of a hand's rows with each name that is quiet put off where it is loaded as a part."""
    rows = read_rows(text, MOST_HAND_ROWS)
    names = quiet(hall)
    return "\n".join([" ".join(put_off_row(row, names)) for row in rows])
