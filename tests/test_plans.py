"""Point 19: ties, rings and the order of loading."""

import unittest

from loadhall.errors import Failed, Lacking, NoBody, NoName, NotFound, NotPack, TooDeep
from loadhall.finders import Barred, Built, Other
from loadhall.halls import Hall
from loadhall.images import image
from loadhall.plans import order, rings, ties
from things import NO_NAMES, HallTest, hall_of, lay, rows


class Ties(HallTest):
    def test_rows_that_want(self):
        hall = hall_of({"a": "load b; may c as x; from d take n; load e as x; from f take all; from g take n as m",
                        "b": "", "c": "", "d": "", "e": "", "f": "", "g": ""})
        self.assertEqual(ties(hall), [("a", other) for other in "bcdefg"])

    def test_rows_that_dont(self):
        hall = hall_of({"a": "later b as x; set b 1; note b; drop b; fail b; show b; when b c; del b", "b": "",
                        "c": ""})
        lay(hall, {"c": "again b; again a"})
        self.assertEqual(ties(hall), [])

    def test_what_doesnt_lie(self):
        hall = hall_of({"a": "load b; from c take b; load a.b"})
        self.assertEqual(ties(hall), [])
        self.assertEqual(ties(Hall()), [])

    def test_rising_and_none_twice(self):
        hall = hall_of({"b": "load c; load a; load c as x; from c take n", "a": "load b", "c": ""})
        self.assertEqual(ties(hall), [("a", "b"), ("b", "a"), ("b", "c")])

    def test_by_itself_alone(self):
        hall = hall_of({"a": "", "a.b": "", "a.b.c": "", "d": "load a.b.c; from a take b", "e": "from a.b take c"},
                       packs="a a.b")
        self.assertEqual(ties(hall), [("d", "a"), ("d", "a.b.c"), ("e", "a.b")])

    def test_dots_ahead(self):
        hall = hall_of({"a": "from .b take n; from . take m; from .. take n", "a.b": "from . take n; from .c take n",
                        "a.c": "from .. take n; from ..a take n; from .b.d take n", "a.b.d": ""}, packs="a a.b")
        self.assertEqual(ties(hall), [("a", "a"), ("a", "a.b"), ("a.b", "a.b"), ("a.c", "a.b.d")])

    def test_a_body_of_no_pack(self):
        hall = hall_of({"a": "", "a.b": "from . take n; from .c take n", "a.c": ""}, packs="a")
        self.assertEqual(ties(hall), [("a.b", "a"), ("a.b", "a.c")])

    def test_what_is_beneath_no_pack_doesnt_lie(self):
        hall = hall_of({"a": "load a.b", "a.b": "load a"})
        self.assertEqual(ties(hall), [])

    def test_packs_of_one_store_alone(self):
        hall = hall_of({"a": "load a.b; load a.c", "a.b": "load a"}, packs="a", path=("s", "t"))
        lay(hall, {"a.c": "load a", "a.b": "load d", "d": ""}, part="t")
        self.assertEqual(ties(hall), [("a", "a.b"), ("a.b", "a")])

    def test_spread_ones(self):
        hall = hall_of({"a.b": "load a.c; load a"}, path=("s", "t"))
        lay(hall, {"a.c": "load a.b"}, part="t")
        # a is spread: it has no body, so no tie leads to it
        self.assertEqual(ties(hall), [("a.b", "a.c"), ("a.c", "a.b")])
        hall.put("t", "a", "load a.c")
        self.assertEqual(ties(hall), [])

    def test_the_first_store_along_the_path(self):
        hall = hall_of({"a": "load b"}, path=("s", "t"))
        lay(hall, {"a": "load c", "b": "load a", "c": ""}, part="t")
        self.assertEqual(ties(hall), [("a", "b"), ("b", "a")])
        hall.set_path(("t", "s"))
        self.assertEqual(ties(hall), [("a", "c"), ("b", "a")])
        hall.set_path(("s",))
        self.assertEqual(ties(hall), [])

    def test_bodies_that_cant_be_read(self):
        hall = hall_of({"a": "load b; set N 1", "b": "load a", "c": "load b; load"})
        self.assertEqual(ties(hall), [("b", "a")])
        self.assertEqual(rings(hall), [])

    def test_as_they_lie(self):
        hall = hall_of({"a": "load b", "b": ""})
        hall.run("load a")
        lay(hall, {"b": "load c", "c": ""})
        hall.take("s", "a")
        self.assertEqual(ties(hall), [("b", "c")])

    def test_finders_arent_asked(self):
        hall = hall_of({"a": "load b", "b": ""})
        hall.put_finder(Barred(("b",)))
        hall.put_finder(Other("a", "b"))
        hall.put_finder(Built((("b", "load a"),)))
        self.assertEqual(ties(hall), [("a", "b")])

    def test_nothing_is_changed(self):
        hall = hall_of({"a": "load b", "b": "load a"})
        told = image(hall)
        for ask in (ties, rings, lambda hall: order(hall, "a")):
            ask(hall).append("x")
            self.assertEqual(image(hall), told)
            self.assertNotIn("x", ask(hall))


class Rings(HallTest):
    def test_lots(self):
        hall = hall_of({"a": "load b", "b": "load c", "c": "load a; load d", "d": "load e", "e": "load d",
                        "f": "load f",
                        "g": "load a"})
        self.assertEqual(rings(hall), [["a", "b", "c"], ["d", "e"], ["f"]])

    def test_two_rings_with_a_name_in_common(self):
        hall = hall_of({"b": "load a; load c", "a": "load b", "c": "load b"})
        self.assertEqual(rings(hall), [["a", "b", "c"]])

    def test_none(self):
        self.assertEqual(rings(hall_of({"a": "load b; load c", "b": "load c", "c": ""})), [])
        self.assertEqual(rings(Hall()), [])

    def test_a_ring_of_one_pack(self):
        hall = hall_of({"a": "from . take b", "a.b": ""}, packs="a")
        self.assertEqual(rings(hall), [["a"]])

    def test_rising(self):
        hall = hall_of({"z": "load y", "y": "load z", "b": "load x", "x": "load b", "aa": "load aa"})
        self.assertEqual(rings(hall), [["aa"], ["b", "x"], ["y", "z"]])
        hall = hall_of({"a": "load d", "c": "load c", "d": "load d"})
        self.assertEqual(rings(hall), [["c"], ["d"]])


class Order(HallTest):
    def test_as_the_bodies_begin(self):
        hall = hall_of({"a": "load b; load c", "b": "load d; load a", "c": "", "d": "load c"})
        self.assertEqual(order(hall, "a"), ["a", "b", "d", "c"])
        self.assertEqual(order(hall, name="c"), ["c"])

    def test_elders_and_spread_ones(self):
        hall = hall_of({"a.b": "", "a.b.c": "load d", "d": ""}, packs="a.b")
        self.assertEqual(order(hall, "a.b.c"), ["a", "a.b", "a.b.c", "d"])

    def test_as_often_as_it_is_begun(self):
        hall = hall_of({"a": "load b; drop b; load b; again b; note 1", "b": ""})
        self.assertEqual(order(hall, "a"), ["a", "b", "b", "b"])

    def test_where_a_body_is_refused(self):
        hall = hall_of({"a": "may b as x; load c", "b": "fail why", "c": ""})
        self.assertEqual(order(hall, "a"), ["a", "b", "c"])

    def test_with_its_finders_and_nothing_loaded_listed_or_kept(self):
        hall = hall_of({"a": "load b", "b": ""})
        hall.run("load a")
        lay(hall, {"b": "load c", "c": ""})
        self.assertEqual(order(hall, "a"), ["a", "b", "c"])
        hall.put_finder(Other("c", "d"))
        hall.put_finder(Built((("d", "load e"), ("e", ""))))
        self.assertEqual(order(hall, "a"), ["a", "b", "d", "e"])
        self.assertEqual(hall.told(), ["a whole", "b whole"])
        hall.set_path(())
        self.assertEqual(order(hall, "d"), ["d", "e"])

    def test_no_name(self):
        hall = hall_of({"a": ""})
        for name in NO_NAMES:
            with self.subTest(repr(name)):
                self.refuse_and_keep(hall, NoName, order, hall, name)

    def test_refused_as_the_row_is(self):
        hall = hall_of({"a": "note 1; fail why", "b": "set N 1", "c": "load d", "d": "note n", "e": "drop e; load e"})
        at = (("main", 0),)
        for name, error, fields in (
            ("a", Failed, {"word": "why", "trail": at + (("a", 1),)}),
            ("b", NoBody, {"row": 0, "trail": at}),
            ("c", Lacking, {"module": "d", "part": "n", "half": True, "trail": at + (("c", 0), ("d", 0))}),
            ("z", NotFound, {"name": "z", "trail": at}),
            ("a.b", Failed, {"word": "why"}),
            ("e", TooDeep, {"name": "e"}),
        ):
            with self.subTest(name):
                self.refuse(error, fields, order, hall, name)
                self.refuse_and_keep(hall, error, order, hall, name)
        hall.put("s", "a", "")
        self.refuse(NotPack, {"name": "a.b", "trail": at}, order, hall, "a.b")

    def test_hands_dont_bear_on_it(self):
        hall = hall_of({"a": rows("load b; note 1"), "b": ""})
        hall.begin("main", "load a\nnote 1")
        hall.step("main")
        for hand in "bcdef":
            hall.run("", hand=hand)
        self.assertEqual(order(hall, "a"), ["a", "b"])


if __name__ == "__main__":
    unittest.main()
