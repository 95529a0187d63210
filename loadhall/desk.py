"""A desk: a hall to which lines are told, and which tells texts."""

from loadhall.bodies import is_number, is_row
from loadhall.cuts import cut
from loadhall.errors import NoLine
from loadhall.finders import Barred, Other
from loadhall.forms import CHECK
from loadhall.halls import Hall
from loadhall.names import is_name, is_part
from loadhall.plans import rings, ties

PATH = ("a",)

# the forms of lines: STORE, NAME, PART and N a word of that kind, ROW the words of a row, BODY those of a body
LINES = (
    "put STORE NAME BODY",
    "pack STORE NAME BODY",
    "take STORE NAME",
    "tick",
    "run ROW",
    "look NAME PART",
    "table",
    "log",
    "bar NAME",
    "other NAME NAME",
    "free",
    "mark",
    "back N",
    "ties",
    "rings",
    "cut",
)

# how the rows of a body are parted in a line
BETWEEN = " ; "


def fits(word, asked):
    """Tell whether a word of a line is what a word of its form asks for."""
    if asked in ("STORE", "PART"):
        return is_part(word)
    if asked == "NAME":
        return is_name(word)
    if asked == "N":
        return is_number(word)
    return word == asked


def has_form(words, line):
    """Tell whether words have that form."""
    asked = line.split(" ")
    if asked[-1] == "ROW":
        return len(words) > 1 and is_row(words[1:])
    if asked[-1] == "BODY":
        asked = asked[:-1]
        words = words[:len(asked)]
    return len(words) == len(asked) and all([fits(word, one) for word, one in zip(words, asked)])


def words_of(line):
    """Tell the words of a line that has one of the forms."""
    if not isinstance(line, str):
        raise NoLine("no text")
    words = line.split(" ")
    forms = [form for form in LINES if form.split(" ")[0] == words[0]]
    # two blanks together, or one at an end, leave an empty word
    if "" in words or not forms or not has_form(words, forms[0]):
        raise NoLine("no line of any form")
    return words


def listed(texts, between):
    """Tell texts as one, none where there are none."""
    return between.join(texts) if texts else "none"


def lay(hall, words):
    """put STORE NAME BODY, pack STORE NAME BODY"""
    body = " ".join(words[3:]).replace(BETWEEN, "\n")
    hall.put(words[1], words[2], body, pack=words[0] == "pack")
    return str(len(hall.store(words[1])))


def take(hall, words):
    """take STORE NAME"""
    return hall.take(words[1], words[2]).replace("\n", BETWEEN)


def tick(hall, words):
    """tick"""
    return str(hall.tick())


def run(hall, words):
    """run ROW"""
    return listed(hall.run(" ".join(words[1:])), " ")


def look(hall, words):
    """look NAME PART"""
    return str(hall.worth(words[1], words[2]))


def table(hall, words):
    """table, and what is told behind back N"""
    return listed(hall.told(), ", ")


def log(hall, words):
    """log"""
    return " ".join([str(len(hall.log)), *hall.log[-1:]])


def finder_words(hall):
    """Tell the words of all finders."""
    return listed([finder.word for finder in hall.finders], " ")


def bar(hall, words):
    """bar NAME"""
    hall.put_finder(Barred((words[1],)))
    return finder_words(hall)


def lead(hall, words):
    """other NAME NAME"""
    hall.put_finder(Other(words[1], words[2]))
    return finder_words(hall)


def free(hall, words):
    """free"""
    return hall.take_finder().word


def mark(hall, words):
    """mark"""
    return str(hall.mark())


def back(hall, words):
    """back N"""
    hall.back(int(words[1]))
    return table(hall, words)


def tie_texts(pairs):
    """Tell ties as one text."""
    return listed([f"{one}>{other}" for one, other in pairs], " ")


def tell_ties(hall, words):
    """ties"""
    return tie_texts(ties(hall))


def tell_rings(hall, words):
    """rings"""
    return listed(["+".join(lot) for lot in rings(hall)], " ")


def tell_cut(hall, words):
    """cut"""
    return tie_texts(cut(hall))


DEEDS = {
    "put": lay,
    "pack": lay,
    "take": take,
    "tick": tick,
    "run": run,
    "look": look,
    "table": table,
    "log": log,
    "bar": bar,
    "other": lead,
    "free": free,
    "mark": mark,
    "back": back,
    "ties": tell_ties,
    "rings": tell_rings,
    "cut": tell_cut,
}


class Desk:
    """A desk with a hall; asked counts the lines, failed those that were refused."""

    def __init__(self, *, path=PATH, check=CHECK):
        self.hall = Hall(path=path, check=check)
        self.asked = 0
        self.failed = 0

    def tell(self, line):
        """Do a line, and tell what comes of it as a text."""
        self.asked += 1
        # counted ahead as refused, whatever for, and as done only behind all
        self.failed += 1
        words = words_of(line)
        deed = DEEDS[words[0]]
        text = deed(self.hall, words)
        self.failed -= 1
        return text

    def done(self):
        """Tell how often a line was told."""
        return self.asked

    def refused(self):
        """Tell how many of these were refused."""
        return self.failed
