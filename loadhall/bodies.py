"""The rows of bodies of modules, and how they are read."""

from loadhall.errors import NoBody
from loadhall.names import is_name, is_near, is_part

MOST_ROWS = 12
MOST_TERMS = 8
MOST_FIGURES = 9

# What each kind of row is made of, but for show: P a part, T a part that isn't all, S a sum, N a name,
# M a name perhaps with dots ahead, any other word itself.
KINDS = (
    "set P S",
    "del P",
    "note S",
    "fail P",
    "when P S",
    "load N",
    "load N as P",
    "later N as P",
    "may N as P",
    "from M take T",
    "from M take T as P",
    "from M take all",
    "again N",
    "drop N",
)


def is_number(word):
    """Tell whether a word is a whole number of at most nine figures, as a sum may have it."""
    figures = word.removeprefix("-")
    if len(figures) > MOST_FIGURES or not (figures.isascii() and figures.isdigit()):
        return False
    return word == "0" or figures[0] != "0"


def is_sum(word):
    """Tell whether a word is one to eight numbers and paths with + between."""
    terms = word.split("+")
    # a path is written as a name is
    return len(terms) <= MOST_TERMS and all([is_number(term) or is_name(term) for term in terms])


def fits(word, asked):
    """Tell whether a word is what one word of a kind of row asks for."""
    if asked == "P":
        return is_part(word)
    if asked == "T":
        return is_part(word) and word != "all"
    if asked == "S":
        return is_sum(word)
    if asked == "N":
        return is_name(word)
    if asked == "M":
        return is_near(word)
    return word == asked


def is_kind(words, kind):
    """Tell whether the words make a row of that kind."""
    asked = kind.split(" ")
    return len(words) == len(asked) and all([fits(word, one) for word, one in zip(words, asked)])


def is_show(words):
    """Tell whether the words make a show row, of one part or more, none twice."""
    parts = words[1:]
    if words[0] != "show" or not parts:
        return False
    return all([is_part(part) for part in parts]) and len(set(parts)) == len(parts)


def is_row(words):
    """Tell whether the words make a row."""
    return is_show(words) or any([is_kind(words, kind) for kind in KINDS])


def read_rows(text, most):
    """Tell the rows of a text of at most so many rows, each as the tuple of its words."""
    if not isinstance(text, str):
        raise NoBody(None)
    # the empty text has no rows, where split would tell an empty one
    rows = text.split("\n") if text else []
    if len(rows) > most:
        raise NoBody(None)
    told = []
    for row in rows:
        # two blanks together, or one at an end, leave an empty word, which fits nothing
        words = row.split(" ")
        if not is_row(words):
            raise NoBody(len(told))
        told.append(tuple(words))
    return told


def read_body(text):
    """Tell the rows of a module's body, each as the tuple of its words."""
    return read_rows(text, MOST_ROWS)
