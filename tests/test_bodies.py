"""Point 6: sums, rows and bodies; points 1 to 3 as far as they bear on these."""

import itertools
import re
import unittest

from loadhall.bodies import read_body
from loadhall.errors import NoBody

PART = r"[a-z]{1,8}"
NAME = PART + r"(?:\." + PART + r"){0,3}"
NEAR = r"(?:\.{0,4}" + NAME + r"|\.{1,4})"
TERM = r"(?:0|-?[1-9][0-9]{0,8}|" + NAME + r")"
SUM = TERM + r"(?:\+" + TERM + r"){0,7}"
ROW = re.compile(
    rf"set {PART} {SUM}|del {PART}|note {SUM}|fail {PART}|show(?: {PART})+|when {PART} {SUM}"
    rf"|load {NAME}|load {NAME} as {PART}|later {NAME} as {PART}|may {NAME} as {PART}"
    rf"|from {NEAR} take (?!all\b){PART}(?: as {PART})?|from {NEAR} take all"
    rf"|again {NAME}|drop {NAME}"
)

# words of every sort that a row asks for, and words that are near to one of them
WORDS = [
    "", "a", "all", "as", "take", "set", "load", "show", "abcdefgh", "abcdefghi", "A", "a.b", "a.b.c.d", "a.b.c.d.e",
    "a.", ".a", "..a.b", "...", "....", ".....", "....a.b.c.d", ".....a", "0", "-0", "01", "123456789", "1234567890",
    "-1", "1+a.b", "1+", "-",
]
HEADS = ["set", "del", "note", "fail", "show", "when", "load", "later", "may", "from", "again", "drop"]


def is_row(row):
    """Tell by another way than the program whether a row is one."""
    if ROW.fullmatch(row) is None:
        return False
    words = row.split(" ")
    return words[0] != "show" or len(words) == len(set(words[1:])) + 1


class Reading(unittest.TestCase):
    def hold(self, *rows):
        """The rows are read, alone and together, as the tuples of their words."""
        told = [tuple(row.split(" ")) for row in rows]
        self.assertEqual(read_body("\n".join(rows)), told)
        for row, words in zip(rows, told):
            self.assertEqual(read_body(row), [words])

    def refuse(self, text, row):
        """The text is refused with NoBody, at that row."""
        with self.assertRaises(NoBody) as caught:
            read_body(text)
        error = caught.exception
        self.assertIs(type(error), NoBody)
        self.assertIsInstance(error, ValueError)
        self.assertEqual((error.row, error.trail), (row, ()))
        self.assertIs(type(error.row), type(row))

    def refuse_row(self, row):
        """The row is refused alone (an empty one can't stand alone), and among other rows, at its number."""
        if row:
            self.refuse(row, 0)
        self.refuse(row + "\nset a 1", 0)
        self.refuse("set a 1\n" + row, 1)
        self.refuse("set a 1\ndel a\n" + row + "\nnote x y", 2)


class Rows(Reading):
    def test_the_empty_text_has_no_rows(self):
        self.assertEqual(read_body(""), [])

    def test_each_kind_of_row(self):
        self.hold("set a 3", "del a", "note a+1", "fail bad", "show a b", "when a b.c", "load a.b.c.d",
                  "load a.b as x", "later a as x", "may a.b as x", "again a.b", "drop a")
        self.hold("from a.b take c", "from a take b as c", "from a take all", "from . take a", "from ..a.b take all")

    def test_rows_are_tuples_of_texts(self):
        self.assertEqual(read_body("set a 3\nfrom ..b.c take d as e"),
                         [("set", "a", "3"), ("from", "..b.c", "take", "d", "as", "e")])
        for words in read_body("set a 3\nnote -1"):
            self.assertIs(type(words), tuple)
            self.assertTrue(all(type(word) is str for word in words))

    def test_the_list_is_the_askers_own(self):
        told = read_body("set a 3\ndel a")
        self.assertIs(type(told), list)
        told.append("x")
        told[0] = None
        self.assertEqual(read_body("set a 3\ndel a"), [("set", "a", "3"), ("del", "a")])
        self.assertEqual(told, [None, ("del", "a"), "x"])
        empty = read_body("")
        empty.append(1)
        self.assertEqual(read_body(""), [])

    def test_by_name(self):
        self.assertEqual(read_body(text="del a"), [("del", "a")])

    def test_words_of_rows_may_be_parts(self):
        for word in ("set", "del", "note", "fail", "show", "when", "load", "as", "later", "may", "from", "take",
                     "again", "drop"):
            self.hold(f"set {word} {word}", f"del {word}", f"note {word}+{word}.{word}", f"fail {word}",
                      f"show {word} a", f"when {word} {word}", f"load {word}", f"load {word} as {word}",
                      f"later {word} as {word}", f"may {word}.{word} as {word}", f"again {word}", f"drop {word}")
            self.hold(f"from {word} take {word}", f"from .{word} take {word} as {word}", f"from {word} take all")
        self.hold("set take 3", "show show")

    def test_no_other_rows(self):
        for row in ("", "a", "get a", "SET a 1", "set", "set a", "set a 1 2", "set a.b 1", "set 1 a", "set a = 1",
                    "del", "del a b", "del a.b", "del 1", "note", "note 1 2", "note a b", "fail", "fail a b", "fail 1",
                    "fail Bad", "fail a.b", "fail abcdefghi", "when", "when a", "when a 1 2", "when a.b 1",
                    "load", "load 1", "load a b", "load a as", "load a as b c", "load a as b.c", "load a as 1",
                    "load a to b", "load .a", "load .", "load .a as b", "load a.b.c.d.e", "load a,b", "load A",
                    "later a", "later a as", "later a as b c", "later .a as b", "later a to b", "later a as b.c",
                    "may a", "may a as", "may a as b c", "may .a as b", "may . as b", "may a to b", "may a as 0",
                    "from", "from a", "from a take", "from a take b as", "from a take b as c d", "from a take b c",
                    "from a load b", "from a take b.c", "from a take b as c.d", "from a take 1", "take a from b",
                    "from a take b to c", "again", "again a b", "again .a", "again a as b", "again ..", "drop",
                    "drop a b", "drop .a", "drop .", "drop a as b", "#", "set a 1;"):
            with self.subTest(row):
                self.refuse_row(row)

    def test_all_is_taken_alone(self):
        self.hold("from a take all", "from .a take all", "from .. take all", "from all take a")
        self.refuse_row("from a take all as b")
        self.refuse_row("from . take all as all")

    def test_all_may_be_any_other_part(self):
        self.hold("from a take b as all", "set all 1", "del all", "show all", "when all 1", "load all as all",
                  "later a as all", "may a as all", "fail all", "note all")

    def test_show(self):
        self.hold("show a", "show a b", "show abcdefgh b c d e f g h i j k l m n o p q r s t u v w x y z")
        for row in ("show", "show a a", "show a b a", "show a b c b", "show a.b", "show a 1", "show a B",
                    "show abcdefghi", "show show show"):
            with self.subTest(row):
                self.refuse_row(row)

    def test_names_with_dots_ahead(self):
        for dots in (".", "..", "...", "...."):
            for name in ("", "a", "a.b", "abcdefgh.b.c", "a.b.c.d"):
                self.hold(f"from {dots}{name} take x", f"from {dots}{name} take x as y", f"from {dots}{name} take all")
            for row in (f"load {dots}a", f"load {dots}a as b", f"later {dots}a as b", f"may {dots}a as b",
                        f"again {dots}a", f"drop {dots}a", f"set x {dots}a", f"note {dots}a", f"show {dots}a",
                        f"del {dots}a", f"from a take {dots}b", f"from a take b as {dots}c"):
                with self.subTest(row):
                    self.refuse_row(row)
        for name in (".....", ".....a", "......", ".a.", ".a..b", "..1", ".A", "a.", ".a.b.c.d.e", "....a.b.c.d.e",
                     ".abcdefghi", "-.a", "0", "a.b.c.d.e"):
            with self.subTest(name):
                self.refuse_row(f"from {name} take x")
                self.refuse_row(f"from {name} take all")

    def test_blanks(self):
        for row in ("set a 1", "load a as b", "show a b", "from . take all", "del a"):
            words = row.split(" ")
            self.refuse_row(" " + row)
            self.refuse_row(row + " ")
            self.refuse_row("\t" + row)
            self.refuse_row(row + "\r")
            self.refuse_row(row.replace(" ", "\t"))
            self.refuse_row(row.replace(" ", "\u00a0"))
            for at in range(1, len(words)):
                self.refuse_row(" ".join(words[:at]) + "  " + " ".join(words[at:]))
        self.refuse_row(" ")
        self.refuse_row("  ")

    def test_every_row_of_a_few_words(self):
        for head in HEADS + WORDS:
            for many in range(3):
                for words in itertools.product(WORDS, repeat=many):
                    self.judge(" ".join((head,) + words))

    def test_every_row_of_more_words(self):
        few = ["", "a", "all", "as", "take", "a.b", ".a", "..", "0", "B"]
        for head in ("load", "later", "may", "from", "show"):
            for words in itertools.product(few, repeat=3):
                self.judge(" ".join((head,) + words))
            for words in itertools.product(few[1:7], ("take", "as", "a", ""), few[:4], ("as", "take", ""), few[:6]):
                self.judge(" ".join((head,) + words))
            self.judge(head + " a take b as c d")
            self.judge(head + " a take b as c as d")

    def judge(self, row):
        """The row is read or refused as the other way tells."""
        try:
            told = read_body("del a\n" + row)
        except NoBody as error:
            self.assertEqual(error.row, 1)
            self.assertFalse(is_row(row), repr(row))
        else:
            self.assertEqual(told, [("del", "a"), tuple(row.split(" "))])
            self.assertTrue(is_row(row), repr(row))


class Sums(Reading):
    def hold_sums(self, *sums):
        for one in sums:
            with self.subTest(one):
                self.hold(f"set a {one}", f"note {one}", f"when a {one}")

    def refuse_sums(self, *sums):
        for one in sums:
            with self.subTest(one):
                self.refuse_row(f"set a {one}")
                self.refuse_row(f"note {one}")
                self.refuse_row(f"when a {one}")

    def test_how_many_terms(self):
        for many in range(1, 20):
            for term in ("1", "a", "-12", "a.b.c.d"):
                one = "+".join([term] * many)
                if many <= 8:
                    self.hold_sums(one)
                else:
                    self.refuse_sums(one)
        self.hold_sums("1+a+-3+b.c+0+0+a+123456789")
        self.refuse_sums("1+a+-3+b.c+0+0+a+123456789+1")

    def test_numbers(self):
        self.hold_sums("0", "1", "9", "10", "100", "-1", "-10", "123456789", "999999999", "-999999999", "100000000",
                       "1+-2", "-1+-2", "0+0")
        self.refuse_sums("00", "01", "-01", "-0", "-00", "007", "1234567890", "-1234567890", "0123456789",
                         "1000000000", "--1", "-", "+", "+1", "1-", "1.5", "1.0", "1e3", "0x1", "1_0", "1,0", "a1",
                         "1a", "1-2", "\u00b2", "\u0661", "-\u0661", "1\u0661", "True1", "1+00", "-0+1", "1+-0")

    def test_paths(self):
        self.hold_sums("a", "abcdefgh", "a.b", "a.b.c", "a.b.c.d", "abcdefgh.abcdefgh.abcdefgh.abcdefgh", "a.b+c.d",
                       "all", "sum")
        self.refuse_sums("a.b.c.d.e", "a.", ".a", "a..b", ".", "abcdefghi", "a.abcdefghi", "A", "a.B", "a.1", "1.a",
                         "-a", "a-b", "a.b.c.d.e+1", "1+.a", "a*b")

    def test_terms_that_are_none(self):
        self.refuse_sums("+", "1+", "+1", "1++2", "a+", "+a", "a++b", "a +b", "a+ b", "(a)", "1+2+", "", "a+B")


class Texts(Reading):
    def test_how_many_rows(self):
        for many in range(1, 13):
            self.hold(*["set a 1"] * many)
        for many in (13, 14, 40, 41, 1000):
            self.refuse("\n".join(["set a 1"] * many), None)

    def test_too_many_rows_are_refused_ahead_of_all(self):
        self.refuse("\n".join(["bad"] * 12), 0)
        self.refuse("\n".join(["bad"] * 13), None)
        self.refuse("\n" * 11, 0)
        self.refuse("\n" * 12, None)

    def test_a_last_line_end_makes_an_empty_row(self):
        self.refuse("set a 1\n", 1)
        self.refuse("set a 1\ndel a\n", 2)
        self.refuse("\n", 0)
        self.refuse("\nset a 1", 0)
        self.refuse("set a 1\n\nset b 1", 1)
        eleven = "set a 1\n" * 11
        self.refuse(eleven, 11)
        self.assertEqual(len(read_body(eleven + "del a")), 12)
        self.refuse(eleven + "del a\n", None)

    def test_only_line_ends_part_rows(self):
        for sign in ("\r\n", "\r", "\v", "\f", "\x1c", "\x85", "\u2028", ";", " ; ", "\\n"):
            self.refuse("set a 1" + sign + "del a", 0)

    def test_the_first_row_that_is_none_is_told(self):
        rows = ["set a 1"] * 12
        for at in range(12):
            self.refuse("\n".join(rows[:at] + ["bad"] * (12 - at)), at)
            self.refuse("\n".join(rows[:at] + ["set a"] + rows[at + 1:]), at)

    def test_no_texts(self):
        for thing in (None, True, False, 0, 1, 12, -3, 10 ** 5000, (), [], ("set a 1",), ["set a 1"],
                      [("set", "a", "1")], (("del", "a"),), b"del a"):
            self.refuse(thing, None)

    def test_what_is_handed_in_is_not_changed(self):
        thing = ["set a 1", ["del a"]]
        self.refuse(thing, None)
        self.assertEqual(thing, ["set a 1", ["del a"]])

    def test_the_same_is_told_again(self):
        for _ in range(2):
            self.refuse("set a 1\nbad", 1)
            self.assertEqual(read_body("set a 1"), [("set", "a", "1")])

    def test_the_error_is_an_error_of_its_own_each_time(self):
        caught = []
        for text in ("bad", "del a\nbad"):
            try:
                read_body(text)
            except NoBody as error:
                caught.append(error)
        self.assertEqual([error.row for error in caught], [0, 1])


if __name__ == "__main__":
    unittest.main()
