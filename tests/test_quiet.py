"""Point 23: which names are loud, why, and which rows of a hand's text may be put off."""

import random
import unittest

from loadhall.errors import Failed, Lacking, Lost, NoBody, NotFound, NotPack, TooDeep
from loadhall.finders import Barred, Built, Other
from loadhall.halls import Hall
from loadhall.images import image
from loadhall.names import elders
from loadhall.quiet import loud, put_off, quiet
from quiet_halls import chance_row, quiet_hall
from things import HallTest, hall_of, lay, rows

REFUSALS = (NoBody, NotFound, NotPack, Lacking, Failed, Lost, TooDeep)


class Words(HallTest):
    def check(self, hall, *told, quiet_ones=""):
        """Just these names are loud, each with its word and what stands beside it, and just those are quiet."""
        self.assertEqual(loud(hall), sorted(told))
        self.assertEqual(quiet(hall), quiet_ones.split())

    def test_quiet_ones(self):
        hall = hall_of({"a": "", "b": "set n 1; show n", "c": "load a; load b as x; from b take n; from b take n as m"})
        self.check(hall, quiet_ones="a b c")
        self.check(Hall())

    def test_no_row(self):
        hall = hall_of({"a": "set N 1", "b": "set n 1; set n 2; note n", "d": "\n", "e": "set n 1; "})
        hall.put("s", "c", "\n".join(["set n 1"] * 13))
        self.check(hall, ("a", "row", None), ("b", "row", 2), ("c", "row", None), ("d", "row", None),
                   ("e", "row", None))

    def test_rows_that_are_loud(self):
        for row in ("del n", "note n", "fail why", "when n 1", "later b as x", "may b as x", "from b take all",
                    "again b",
                    "drop b"):
            hall = hall_of({"a": f"set n 1; {row}", "b": ""})
            with self.subTest(row):
                self.check(hall, ("a", "row", 1), quiet_ones="b")

    def test_rows_that_are_quiet(self):
        for row in ("set n 1", "show n", "load b", "load b as x", "from b take m", "from b take m as all"):
            hall = hall_of({"a": f"set n 1; {row}", "b": "set m 1"})
            with self.subTest(row):
                self.check(hall, quiet_ones="a b")

    def test_a_want_that_doesnt_lie(self):
        hall = hall_of({"a": "load b; load c", "b": "", "d": "from e take n; from c take n", "f": "load g.h",
                        "g": "", "i": "load b; load j.k"})
        self.check(hall, ("a", "lacks", "c"), ("d", "lacks", "e"), ("f", "lacks", "g.h"), ("i", "lacks", "j"),
                   quiet_ones="b g")

    def test_all_beginnings_are_wanted(self):
        hall = hall_of({"a": "", "a.b": "", "a.b.c": "", "d": "load a.b.c.e", "f": "from a.e.c take n"},
                       packs="a a.b a.b.c")
        self.check(hall, ("d", "lacks", "a.b.c.e"), ("f", "lacks", "a.e"), quiet_ones="a a.b a.b.c")

    def test_a_spread_one_doesnt_lie(self):
        hall = hall_of({"a.b": "", "c": "load a.b", "d": "load a"})
        self.check(hall, ("c", "lacks", "a"), ("d", "lacks", "a"), quiet_ones="a.b")

    def test_what_is_taken_is_wanted_where_it_lies(self):
        hall = hall_of({"a": "", "a.b": "load c", "d": "from a take b", "e": "set n 1; from e.n take n"}, packs="a")
        lay(hall, {"f": "load a; from a take n"})
        self.check(hall, ("a.b", "lacks", "c"), ("d", "loud", "a.b"), ("e", "lacks", "e.n"), ("f", "refused", None),
                   quiet_ones="a")

    def test_dots_ahead(self):
        hall = hall_of({"a": "", "a.b": "from .c take n", "a.c": "set n 1", "a.d": "from . take c",
                        "a.e": "from .. take n",
                        "a.f": "from ..a take n", "a.g": "from .h take n", "i": "from . take n"}, packs="a a.d")
        self.check(hall, ("a.d", "ring", "a.d"), ("a.e", "lacks", ".."), ("a.f", "lacks", "..a"),
                   ("a.g", "lacks", "a.h"),
                   ("i", "lacks", "."), quiet_ones="a a.b a.c")

    def test_too_many_parts(self):
        hall = hall_of({"a": "from .b.c.d.e take n", "b": "from b.c.d take n"}, packs="a b")
        self.check(hall, ("a", "lacks", ".b.c.d.e"), ("b", "lacks", "b.c"))
        hall = hall_of({"a": "", "a.b": "", "a.b.c": "", "a.b.c.d": "set n 1", "e": "from a.b.c.d take n"},
                       packs="a a.b a.b.c a.b.c.d")
        self.check(hall, quiet_ones="a a.b a.b.c a.b.c.d e")

    def test_the_first_want_that_lacks_and_the_row_ahead(self):
        hall = hall_of({"a": "load b; from .. take n; load c"})
        self.check(hall, ("a", "lacks", "b"))
        hall = hall_of({"a": "from .. take n; load b; note 1"})
        self.check(hall, ("a", "row", 2))
        lay(hall, {"a": "from .. take n; load b"})
        self.check(hall, ("a", "lacks", ".."))

    def test_shadow(self):
        for row, part in (("set b 1", "b"), ("load c as b", "b"), ("load b", "b"), ("from c take n as b", "b"),
                          ("from c take b", "b")):
            hall = hall_of({"a": f"set x 1; {row}; set d 1", "a.b": "", "a.d": "", "b": "", "c": "set n 1; set b 1"},
                           packs="a")
            with self.subTest(row):
                self.check(hall, ("a", "shadow", part), quiet_ones="a.b a.d b c")

    def test_no_shadow(self):
        # what is shown isn't set; what lies under no pack isn't beneath it; the first part of a name alone is set
        hall = hall_of({"a": "show b", "a.b": "", "c": "set b 1", "c.b": "", "d": "load e.b", "d.b": "", "e": "",
                        "e.b": ""},
                       packs="a d e")
        self.check(hall, quiet_ones="a a.b c d d.b e e.b")

    def test_ahead_of_shadow(self):
        hall = hall_of({"a": "set b 1; load c", "a.b": ""}, packs="a")
        self.check(hall, ("a", "lacks", "c"), ("a.b", "refused", None))

    def test_shadow_ahead_of_ring(self):
        hall = hall_of({"a": "set b 1; load a", "a.b": ""}, packs="a")
        self.check(hall, ("a", "shadow", "b"), quiet_ones="a.b")

    def test_rings(self):
        hall = hall_of({"a": "load b", "b": "load c", "c": "load a", "d": "load d", "e": "load a"})
        self.check(hall, *[(name, "ring", name) for name in "abcd"], ("e", "loud", "a"))

    def test_its_own_name_as_a_beginning(self):
        hall = hall_of({"a": "load a.b", "a.b": "", "c": "from .b take n", "c.b": "set n 1"}, packs="a c")
        self.check(hall, ("a", "ring", "a"), ("c", "ring", "c"), quiet_ones="a.b c.b")

    def test_a_ring_over_an_elder(self):
        hall = hall_of({"a": "load c", "a.b": "", "c": "load a.b"}, packs="a")
        self.check(hall, ("a", "ring", "a"), ("c", "ring", "c"), quiet_ones="a.b")

    def test_no_ring_over_what_is_barred_ahead(self):
        # b's own row is loud, so that its wants lead no further
        hall = hall_of({"a": "load b", "b": "load a; note 1"})
        self.check(hall, ("a", "loud", "b"), ("b", "row", 1))
        hall = hall_of({"a": "load b", "b": "load a; load c"})
        self.check(hall, ("a", "loud", "b"), ("b", "lacks", "c"))

    def test_a_ring_over_a_loud_one(self):
        hall = hall_of({"a": "load b; load c", "b": "load a", "c": "note 1"})
        self.check(hall, ("a", "ring", "a"), ("b", "ring", "b"), ("c", "row", 0))

    def test_loud_wants(self):
        hall = hall_of({"a": "load b; load c; load d", "b": "", "c": "note 1", "d": "load z", "e": "load a",
                        "f": "load e"})
        self.check(hall, ("a", "loud", "c"), ("c", "row", 0), ("d", "lacks", "z"), ("e", "loud", "a"),
                   ("f", "loud", "e"),
                   quiet_ones="b")

    def test_a_loud_elder(self):
        hall = hall_of({"a": "note 1", "a.b": "", "c": "load a.b"}, packs="a")
        self.check(hall, ("a", "row", 0), ("c", "loud", "a"), quiet_ones="a.b")

    def test_refused(self):
        hall = hall_of({"a": "set n m", "b": "load a", "c": "load d; set n d+1", "d": "", "e": "from d take n",
                        "f": "load d; load e as x; load d"})
        self.check(hall, ("a", "refused", None), ("b", "loud", "a"), ("c", "refused", None), ("e", "refused", None),
                   ("f", "loud", "e"), quiet_ones="d")

    def test_an_elder_that_is_loud_refuses(self):
        # the wants of a.b are none, yet to load it its elder is loaded
        hall = hall_of({"a": "fail why", "a.b": ""}, packs="a")
        self.check(hall, ("a", "row", 0), ("a.b", "refused", None))
        hall = hall_of({"a": "note 1", "a.b": ""}, packs="a")
        self.check(hall, ("a", "row", 0), quiet_ones="a.b")

    def test_a_bare_hall_with_along_alone(self):
        hall = hall_of({"a": "load b", "b": "set n 1"})
        hall.put_finder(Barred(("b",)))
        hall.put_finder(Other("a", "c"))
        hall.put_finder(Built((("d", ""),)))
        hall.run("load d")
        self.check(hall, quiet_ones="a b")

    def test_as_it_lies(self):
        hall = hall_of({"a": "set n 1", "b": "load a"})
        hall.run("load b")
        lay(hall, {"a": "note 1", "c": ""})
        self.check(hall, ("a", "row", 0), ("b", "loud", "a"), quiet_ones="c")

    def test_along_the_path(self):
        hall = hall_of({"a": "load b"}, path=("s", "t"))
        lay(hall, {"a": "note 1", "b": ""}, part="t")
        lay(hall, {"c": ""}, part="u")
        self.check(hall, quiet_ones="a b")
        hall.set_path(("t", "s"))
        self.check(hall, ("a", "row", 0), quiet_ones="b")
        hall.set_path(("s",))
        self.check(hall, ("a", "lacks", "b"))

    def test_nothing_is_changed(self):
        hall = hall_of({"a": "load b", "b": "", "c": "note 1"})
        told = image(hall)
        for ask in (loud, quiet):
            ask(hall).append("x")
            self.assertNotIn("x", ask(hall))
        put_off(hall, "load a as x")
        self.assertEqual(image(hall), told)

    def test_forty_names_that_hang_together(self):
        names = ["n" + chr(97 + at // 26) + chr(97 + at % 26) for at in range(40)]
        hall = hall_of({name: f"load {following} as x; set n x.n" for name, following in zip(names, names[1:])})
        lay(hall, {names[-1]: "set n 1"})
        self.check(hall, quiet_ones=" ".join(names))
        lay(hall, {names[-1]: "set m 1"})
        self.check(hall, *[(name, "loud", following) for name, following in zip(names[:-2], names[1:])],
                   (names[-2], "refused", None), quiet_ones=names[-1])


class PutOff(HallTest):
    def test_rows(self):
        hall = hall_of({"a": "", "a.b": "", "c": "note 1"}, packs="a")
        text = rows("set n 1; load a as x; load a; load a.b as y; load c as z; load d as w; may a as v; "
                    "from a take b; note x; later a as u; again a; drop a; load a as load")
        told = text.replace("load a as x", "later a as x").replace("load a.b as y", "later a.b as y")
        self.assertEqual(put_off(hall, text), told.replace("load a as load", "later a as load"))
        self.assertEqual(put_off(hall=hall, text=""), "")

    def test_forty_rows(self):
        hall = hall_of({"a": ""})
        self.assertEqual(put_off(hall, "\n".join(["load a as x"] * 40)), "\n".join(["later a as x"] * 40))
        self.refuse_and_keep(hall, NoBody, put_off, hall, "\n".join(["load a as x"] * 41))

    def test_no_body(self):
        hall = hall_of({"a": ""})
        for text, row in ((None, None), (True, None), (1, None), (["note 1"], None), ("note", 0), ("note 1\n", 1),
                          (" ", 0),
                          ("load a as x\nload a  as y", 1), ("\n".join(["note"] * 41), None)):
            with self.subTest(repr(text)):
                self.refuse(NoBody, {"row": row, "trail": ()}, put_off, hall, text)

    def test_the_text_put_off_comes_to_the_same(self):
        many = {"same": 0, "put off": 0}
        for number in range(1200):
            chance = random.Random(number)
            hall = quiet_hall(chance)
            names = [name for name in quiet(hall) if all(elder in quiet(hall) for elder in elders(name))]
            if not names:
                continue
            for _ in range(4):
                text = "\n".join(chance_row(chance, names, ("set", "note", "load", "load as", "from", "from as"))
                                 for _ in range(chance.randrange(1, 6)))
                off = put_off(hall, text)
                told = what_comes(hall, off)
                if told is not None and wants_are_quiet(hall, text):
                    self.assertEqual(told, what_comes(hall, text), (number, text))
                    many["same"] += 1
                    many["put off"] += off != text
        self.assertGreater(min(many.values()), 100)


def wants_are_quiet(hall, text):
    """Tell whether what a hand's rows take from beneath names that are quiet is none of the loud ones."""
    taken = [row.split(" ") for row in text.split("\n") if row.startswith("from ")]
    loud_names = [name for name, _, _ in loud(hall)]
    return not any(f"{row[1]}.{row[3]}" in loud_names for row in taken)


def what_comes(hall, text):
    """Tell the notes and the names to which a text comes in a bare hall, None where it is refused."""
    bare = Hall(path=hall.path)
    bare.stores = hall.stores
    try:
        names = bare.run(text)
    except REFUSALS:
        return None
    return names, [one for one in bare.log if one.startswith("note ")], bare.names("main", hand=True)


if __name__ == "__main__":
    unittest.main()
