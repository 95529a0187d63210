"""Point 5: parts, names and names with dots ahead; points 1 to 3 as far as they bear on these."""

import itertools
import re
import unittest

from loadhall.errors import NoName
from loadhall.names import elder_of, elders, is_name, is_part, last_of, near_name

NO_TEXTS = [
    None, True, False, 0, 1, -1, 123456789, 10 ** 5000,
    (), ("a",), ("a", "b"), ("a",) * 3, [], ["a"], ["a", "b"], [["a"]], (("a",),), ["a", None, True, 3],
]

NO_PARTS = [
    "", " ", "abcdefghi", "A", "aB", "Abc", "ABC", "1", "a1", "1a", "12", "a ", " a", "a b", "a\n", "\na", "a\nb",
    "\n", "a\t", "a\r", ".", "a.", ".a", "a_", "_", "a-b", "-a", "a+b", "<a>", "`", "{", "a\x00", "\x00",
    "\u00e9", "\u00e4b", "a\u00df", "\u0430", "\uff41", "\u00aa", "abcdefgh ", "abcdefgh\n",
]

PARTS = ["a", "z", "ab", "az", "abcdefg", "abcdefgh", "zzzzzzzz", "set", "all", "take", "as", "none", "true"]

NAMES = [
    "a", "abcdefgh", "a.b", "a.a", "abcdefgh.abcdefgh", "a.b.c", "a.b.c.d",
    "abcdefgh.abcdefgh.abcdefgh.abcdefgh", "set.from.take.all",
]

NO_NAMES = [
    "", ".", "..", "...", "....", "a.", ".a", "a.b.", ".a.b", "a..b", "a...b", "a.b..c", "a.b.c.d.e", "a.b.c.d.",
    ".a.b.c.d", "a.b.c.d.e.f", "a.B", "A.b", "a.1", "1.a", "a.b c", "a .b", "a. b", " a.b", "a.b ", "a.b\n", "\na.b",
    "a.\nb", "a.b\n.c", "abcdefghi.a", "a.abcdefghi", "a,b", "a.b+c", "a.\u00e9", "a.b.c.d\n",
]


class Parts(unittest.TestCase):
    def test_parts(self):
        for part in PARTS:
            with self.subTest(part):
                self.assertIs(is_part(part), True)

    def test_each_small_letter_is_a_part(self):
        for letter in "abcdefghijklmnopqrstuvwxyz":
            self.assertIs(is_part(letter), True)

    def test_no_other_sign_is_a_part(self):
        small = set("abcdefghijklmnopqrstuvwxyz")
        for number in range(1000):
            if chr(number) not in small:
                with self.subTest(number):
                    self.assertIs(is_part(chr(number)), False)
                    self.assertIs(is_part("a" + chr(number) + "b"), False)

    def test_each_length(self):
        for many in range(20):
            self.assertIs(is_part("a" * many), 1 <= many <= 8)

    def test_other_texts(self):
        for text in NO_PARTS:
            with self.subTest(repr(text)):
                self.assertIs(is_part(text), False)

    def test_no_texts(self):
        for number, thing in enumerate(NO_TEXTS):
            with self.subTest(number):
                self.assertIs(is_part(thing), False)

    def test_names_of_several_parts_are_none(self):
        self.assertIs(is_part("a.b"), False)

    def test_by_name(self):
        self.assertIs(is_part(thing="a"), True)
        self.assertIs(is_part(thing=None), False)


class Names(unittest.TestCase):
    def test_names(self):
        for name in NAMES + PARTS:
            with self.subTest(name):
                self.assertIs(is_name(name), True)

    def test_each_number_of_parts(self):
        for many in range(1, 10):
            self.assertIs(is_name(".".join(["ab"] * many)), many <= 4)

    def test_what_is_no_part_is_no_name_by_itself_or_within_one(self):
        for text in NO_PARTS:
            if text != "." and not text.strip("."):
                continue
            if is_name(text):
                continue
            for name in (text, "a." + text, text + ".a", "a." + text + ".b"):
                with self.subTest(repr(name)):
                    self.assertIs(is_name(name), False)

    def test_other_texts(self):
        for text in NO_NAMES:
            with self.subTest(repr(text)):
                self.assertIs(is_name(text), False)

    def test_no_texts(self):
        for number, thing in enumerate(NO_TEXTS):
            with self.subTest(number):
                self.assertIs(is_name(thing), False)

    def test_all_short_texts(self):
        form = re.compile(r"[a-z]{1,8}(\.[a-z]{1,8}){0,3}")
        for many in range(7):
            for signs in itertools.product("a.B", repeat=many):
                text = "".join(signs)
                self.assertIs(is_name(text), form.fullmatch(text) is not None, repr(text))

    def test_by_name(self):
        self.assertIs(is_name(thing="a.b"), True)
        self.assertIs(is_name(thing=["a.b"]), False)


class Elders(unittest.TestCase):
    def test_elder_of_a_part_is_none(self):
        for part in PARTS:
            with self.subTest(part):
                self.assertIsNone(elder_of(part))

    def test_elder_of_names(self):
        self.assertEqual(elder_of("a.b"), "a")
        self.assertEqual(elder_of("ab.cd.ef"), "ab.cd")
        self.assertEqual(elder_of("a.b.c.d"), "a.b.c")
        self.assertEqual(elder_of("a.a"), "a")
        self.assertEqual(elder_of(name="a.b"), "a")

    def test_last_of(self):
        self.assertEqual(last_of("a"), "a")
        self.assertEqual(last_of("abcdefgh"), "abcdefgh")
        self.assertEqual(last_of("a.b"), "b")
        self.assertEqual(last_of("ab.cd.ef"), "ef")
        self.assertEqual(last_of("a.b.c.d"), "d")
        self.assertEqual(last_of(name="a.b"), "b")

    def test_elders(self):
        self.assertEqual(elders("a"), ["a"])
        self.assertEqual(elders("a.b"), ["a", "a.b"])
        self.assertEqual(elders("ab.cd.ef"), ["ab", "ab.cd", "ab.cd.ef"])
        self.assertEqual(elders("a.b.c.d"), ["a", "a.b", "a.b.c", "a.b.c.d"])
        self.assertEqual(elders("a.a.a"), ["a", "a.a", "a.a.a"])
        self.assertEqual(elders(name="a.b"), ["a", "a.b"])

    def test_elders_are_the_askers_own(self):
        told = elders("a.b.c")
        self.assertIsInstance(told, list)
        told.append("x")
        told[0] = "y"
        self.assertEqual(elders("a.b.c"), ["a", "a.b", "a.b.c"])
        self.assertEqual(told, ["y", "a.b", "a.b.c", "x"])


class NearNames(unittest.TestCase):
    def refuse(self, name, **more):
        with self.assertRaises(NoName) as caught:
            near_name(name, **more)
        self.assertIsInstance(caught.exception, ValueError)
        self.assertIs(type(caught.exception), NoName)

    def test_without_dots_ahead_the_name_itself(self):
        for name in NAMES + PARTS:
            for base in NAMES + NO_NAMES + NO_TEXTS:
                self.assertEqual(near_name(name, base=base), name)
                self.assertEqual(near_name(name, base=base, pack=True), name)

    def test_dots_alone_in_what_is_no_pack(self):
        told = {"a": [], "a.b": ["a"], "a.b.c": ["a.b", "a"], "a.b.c.d": ["a.b.c", "a.b", "a"]}
        for base, names in told.items():
            for many in range(1, 5):
                dots = "." * many
                with self.subTest(base=base, dots=dots):
                    if many <= len(names):
                        self.assertEqual(near_name(dots, base=base), names[many - 1])
                        self.assertEqual(near_name(dots, base=base, pack=False), names[many - 1])
                    else:
                        self.refuse(dots, base=base)
                        self.refuse(dots, base=base, pack=False)

    def test_dots_alone_in_a_pack(self):
        told = {"a": ["a"], "a.b": ["a.b", "a"], "a.b.c": ["a.b.c", "a.b", "a"],
                "a.b.c.d": ["a.b.c.d", "a.b.c", "a.b", "a"]}
        for base, names in told.items():
            for many in range(1, 5):
                dots = "." * many
                with self.subTest(base=base, dots=dots):
                    if many <= len(names):
                        self.assertEqual(near_name(dots, base=base, pack=True), names[many - 1])
                    else:
                        self.refuse(dots, base=base, pack=True)

    def test_names_behind_dots(self):
        self.assertEqual(near_name(".x", base="a.b"), "a.x")
        self.assertEqual(near_name(".x", base="a.b", pack=True), "a.b.x")
        self.assertEqual(near_name(".x.y", base="a.b"), "a.x.y")
        self.assertEqual(near_name(".x.y", base="a.b", pack=True), "a.b.x.y")
        self.assertEqual(near_name("..x", base="a.b.c"), "a.x")
        self.assertEqual(near_name("..x", base="a.b.c", pack=True), "a.b.x")
        self.assertEqual(near_name("...x.y.z", base="a.b.c.d"), "a.x.y.z")
        self.assertEqual(near_name("....x.y.z", base="a.b.c.d", pack=True), "a.x.y.z")
        self.assertEqual(near_name(".x", base="a", pack=True), "a.x")
        self.assertEqual(near_name(".all", base="set.from"), "set.all")

    def test_no_such_elder(self):
        self.refuse(".x", base="a")
        self.refuse("..x", base="a.b")
        self.refuse("..x", base="a", pack=True)
        self.refuse("...x", base="a.b.c")
        self.refuse("....x", base="a.b.c.d")
        self.refuse("....x", base="a.b.c", pack=True)

    def test_just_as_many_parts_as_may_be_and_one_more(self):
        self.assertEqual(near_name(".x.y.z", base="a", pack=True), "a.x.y.z")
        self.refuse(".w.x.y.z", base="a", pack=True)
        self.assertEqual(near_name(".x", base="a.b.c.d"), "a.b.c.x")
        self.refuse(".x.y", base="a.b.c.d")
        self.assertEqual(near_name(".x", base="a.b.c", pack=True), "a.b.c.x")
        self.refuse(".x", base="a.b.c.d", pack=True)
        self.assertEqual(near_name("..x.y", base="a.b.c.d"), "a.b.x.y")
        self.refuse("..x.y.z", base="a.b.c.d")
        self.assertEqual(near_name("...x.y", base="a.b.c.d", pack=True), "a.b.x.y")
        self.refuse("...x.y.z", base="a.b.c.d", pack=True)
        self.assertEqual(near_name("...x.y.z", base="a.b.c.d"), "a.x.y.z")
        self.refuse("...w.x.y.z", base="a.b.c.d")

    def test_all_that_is_asked_of_names_with_dots(self):
        for dots, many, behind, pack in itertools.product(range(1, 5), range(1, 5), range(5), (True, False)):
            base = "abcd"[:many]
            left = many - dots + pack
            told = base[:left] + "wxyz"[:behind] if left > 0 else ""
            name = "." * dots + ".".join("wxyz"[:behind])
            with self.subTest(name=name, base=base, pack=pack):
                if 1 <= len(told) <= 4:
                    self.assertEqual(near_name(name, base=".".join(base), pack=pack), ".".join(told))
                else:
                    self.refuse(name, base=".".join(base), pack=pack)

    def test_five_dots(self):
        for name in (".....", ".....x", "......", "......x.y"):
            for pack in (True, False):
                self.refuse(name, base="a.b.c.d", pack=pack)

    def test_no_name_behind_dots(self):
        for name in (".X", ".x.", "..x.", ".x..y", ".1", ". x", ".x ", " .x", ".\n", ".x\n", "\n.x", ".a.b.c.d.e",
                     ".abcdefghi", ".-", ".\u00e9"):
            for pack in (True, False):
                self.refuse(name, base="a.b.c.d", pack=pack)

    def test_no_names(self):
        for name in NO_NAMES:
            if not name.startswith("."):
                for base in ("a.b.c", "a", None, ""):
                    with self.subTest(repr(name)):
                        self.refuse(name, base=base)
                        self.refuse(name, base=base, pack=True)

    def test_no_texts(self):
        for number, thing in enumerate(NO_TEXTS):
            with self.subTest(number):
                self.refuse(thing, base="a.b.c")
                self.refuse(thing, base="a.b.c", pack=True)
                self.refuse(thing, base=None)

    def test_bases_that_are_no_names(self):
        for base in NO_NAMES + NO_TEXTS:
            for name in (".", "..", ".x", "..x.y"):
                self.refuse(name, base=base)
                self.refuse(name, base=base, pack=True)

    def test_arguments(self):
        self.assertEqual(near_name(name=".x", base="a.b"), "a.x")
        self.assertEqual(near_name(pack=True, base="a.b", name=".x"), "a.b.x")
        with self.assertRaises(TypeError):
            near_name(".x", "a.b")
        with self.assertRaises(TypeError):
            near_name(".x")

    def test_what_is_handed_in_is_not_changed(self):
        name, base = ["a", [".b"]], ["a.b"]
        self.refuse(name, base=base)
        self.refuse(".x", base=base)
        self.assertFalse(is_part(name) or is_name(name))
        self.assertEqual((name, base), (["a", [".b"]], ["a.b"]))

    def test_the_same_is_told_again(self):
        for _ in range(2):
            self.assertEqual(near_name("..x", base="a.b.c"), "a.x")
            self.refuse("..x", base="a.b")


if __name__ == "__main__":
    unittest.main()
