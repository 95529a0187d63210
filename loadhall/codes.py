"""Plain values, tuples within tuples, as a text and back, in which each small slip is found.

A value's words have | between; ahead of them stand < and their length and rest, behind them >. As < and > stand nowhere
else, no beginning and no end can be left out unseen; the length tells of a sign that was put in or left out, the rest
of one that was changed or exchanged with its neighbour.
"""

from loadhall.errors import NoLine

# signs that have a meaning between words, and what stands for them within one
SIGNS = (("~", "~t"), ("\n", "~n"), ("|", "~b"), ("<", "~l"), (">", "~g"))

PLAIN = (("None", None), ("True", True), ("False", False))

# a prime, so that neither one sign nor two beside one another may differ and leave the same rest
PRIME = 10 ** 18 + 9

# < and | around twelve figures of length, nineteen of the rest, and |
HEAD_LENGTH = 34


def code_of(text):
    """Tell a text with no sign in it that has a meaning between words."""
    for sign, code in SIGNS:
        text = text.replace(sign, code)
    return text


def text_of(code):
    """Tell the text whose code this is."""
    for sign, one in reversed(SIGNS):
        code = code.replace(one, sign)
    return code


def words_of(thing):
    """Tell the words of a value: of a tuple how many it has, and then theirs."""
    if isinstance(thing, tuple):
        return [f"({len(thing)}", *[word for one in thing for word in words_of(one)]]
    if isinstance(thing, str):
        return [f"s{code_of(thing)}"]
    if thing is None or isinstance(thing, bool):
        return [str(thing)]
    return [f"i{thing}"]


def sealed(code):
    """Tell a code with what tells of slips around it."""
    rest = int("0" + code.encode().hex(), 16) % PRIME
    return f"<{len(code):012d}|{rest:019d}|{code}>"


def coded(thing):
    """Tell a value as a text."""
    return sealed("|".join(words_of(thing)))


class Reader:
    """Reads words; at is the number of the next one."""

    def __init__(self, words):
        self.words = words
        self.at = 0

    def read(self):
        """Tell the next value."""
        word = self.words[self.at]
        self.at += 1
        if word[0] == "(":
            return tuple([self.read() for _ in range(int(word[1:]))])
        if word[0] == "s":
            return text_of(word[1:])
        if word[0] == "i":
            return int(word[1:])
        return [thing for name, thing in PLAIN if name == word][0]


def decoded(text):
    """Tell the value of a text that coded told; refused where it isn't just as that told it."""
    if not isinstance(text, str) or not text.isascii():
        raise NoLine("no text that was told of a value")
    code = text[HEAD_LENGTH:-1]
    if text != sealed(code):
        raise NoLine("a text that was told of a value, but not as it stands")
    return Reader(code.split("|")).read()
