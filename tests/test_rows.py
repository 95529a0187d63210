"""Point 13: what each kind of row does, and how it is refused."""

import unittest

from loadhall.errors import Failed, Lacking, Lost, NotFound, NotPack
from loadhall.finders import Barred, Built, Other
from things import HallTest, hall_of, lay, rows


class SmallRows(HallTest):
    def test_set(self):
        hall = hall_of({"a": "set n 1; set m n+1; set n 5"})
        hall.run("load a\nset p 3\nset p p+a.m")
        self.assertEqual(hall.names("a"), ["m = 2", "n = 5"])
        self.assertEqual(hall.names("main", hand=True), ["a = <a>", "p = 5"])

    def test_words_of_rows_as_parts(self):
        hall = hall_of({})
        hall.run(rows("set take 3; set all 4; set as take+all; note as"))
        self.assertEqual(hall.log, ("note main 7",))

    def test_del(self):
        hall = hall_of({"a": "set n 1; set m 2; del n"})
        hall.run("load a\nset p 1\ndel p")
        self.assertEqual(hall.names("a"), ["m = 2"])
        self.refuse_row(hall, "del p", Lacking, module="main", part="p", half=False)
        hall = hall_of({"a": "del n"})
        self.refuse_row(hall, "load a", Lacking, trail=(("main", 0), ("a", 0)), module="a", part="n", half=True)

    def test_del_leaves_what_is_kept(self):
        hall = hall_of({"a": "set n 1; when n 2; del n"})
        self.check_rows(hall, "load a; note a.n", ["main 2"])
        self.refuse_row(hall, "when p 1; del p", Lacking, trail=(("main", 1),), module="main", part="p", half=False)

    def test_note(self):
        hall = hall_of({"a": "", "a.b": "note 3; set n 4; note n"}, packs="a")
        hall.run("load a.b as x\nnote x\nnote -5", hand="y")
        self.assertEqual(hall.log[2:], ("begin a.b", "note a.b 3", "note a.b 4", "end a.b", "note y <a.b>",
                                        "note y -5"))

    def test_fail(self):
        hall = hall_of({"a": "note 1; fail why; note 2"})
        self.refuse_row(hall, "load a", Failed, trail=(("main", 0), ("a", 1)), word="why")
        self.refuse_row(hall, "fail fail", Failed, word="fail")

    def test_show_and_when_change_no_names(self):
        hall = hall_of({})
        self.assertEqual(hall.run("show p q\nwhen p 1"), [])
        self.assertEqual(hall.log, ())


class LoadRows(HallTest):
    def test_the_first_part_is_set(self):
        hall = hall_of({"a": "", "a.b": ""}, packs="a")
        self.assertEqual(hall.run("load a.b"), ["a"])
        self.assertEqual(hall.names("main", hand=True), ["a = <a>"])

    def test_the_first_part_is_lost(self):
        hall = hall_of({"a": "", "a.b": "drop a"}, packs="a")
        self.refuse_row(hall, "load a.b", Lost, name="a")
        self.assertEqual(hall.told(), ["a.b whole"])
        self.refuse_row(hall, "load a.b as x", Lost, name="a")
        self.refuse_row(hall, "load a.b", Lost, name="a")

    def test_as_a_part(self):
        hall = hall_of({"a": "set n 1", "a.b": "set n 2", "a.b.c": "set n 3"}, packs="a a.b")
        self.check_rows(hall, "load a.b.c as x; load a.b as y; load a as z; note x.n; note y.n; note z.n",
                        ["main 3", "main 2", "main 1"])
        self.assertEqual(hall.names("main", hand=True), ["x = <a.b.c>", "y = <a.b>", "z = <a>"])

    def test_as_a_part_by_the_names_on_the_way(self):
        hall = hall_of({"a": "", "a.b": "", "c": ""}, packs="a")
        hall.run(rows("load a.b; load c"))
        hall.tick()
        lay(hall, {"a": "load c as b"}, packs="a")
        # the name b of a is another module by now than the one that the table has for a.b
        self.check_rows(hall, "again a; load a.b as x; note x", ["main <c>"])

    def test_as_a_part_by_a_number_on_the_way(self):
        hall = hall_of({"a": "load a.b; set b 7", "a.b": "", "a.b.c": ""}, packs="a a.b")
        self.check_rows(hall, "load a.b as x; note x", ["main 7"])
        # of a number the table's module is taken, and where there is none the part is lacking
        self.check_rows(hall, "load a.b.c as x; note x", ["main <a.b.c>"])
        hall.run(rows("load a.b.c; drop a.b.c"))
        hall.put_finder(Other("a.b.c", "a"))
        self.check_rows(hall, "load a.b.c as x; note x", ["main <a>"])

    def test_as_a_part_that_is_lacking(self):
        hall = hall_of({"a": "set n 1", "a.b": "", "a.b.c": "drop a.b"}, packs="a a.b")
        hall.run(rows("load a.b.c; drop a; load a"))
        self.refuse_row(hall, "load a.b.c as x", Lacking, module="a", part="b", half=False)

    def test_as_a_part_that_a_half_module_is_lacking(self):
        hall = hall_of({"a": "", "a.b": "", "a.b.c": "drop a.b"}, packs="a a.b")
        hall.run(rows("load a.b.c; drop a"))
        hall.tick()
        lay(hall, {"a": "load a.b.c as x"}, packs="a")
        self.refuse_row(hall, "load a", Lacking, trail=(("main", 0), ("a", 0)), module="a", part="b", half=True)

    def test_as_a_part_of_a_number_that_is_lacking(self):
        hall = hall_of({"a": "", "a.b": "", "a.b.c": ""}, packs="a a.b a.b.c")
        hall.put_finder(Other("a.b.c.d", "a"))
        hall.run(rows("load a.b.c.d; drop a.b; drop a"))
        hall.tick()
        lay(hall, {"a": "set b 3"}, packs="a")
        self.check_rows(hall, "load a; load a.b.c as x; note x", ["main <a.b.c>"])
        hall.run("drop a.b.c")
        self.refuse_row(hall, "load a.b.c.d as x", Lacking, module="", part="c", half=False)

    def test_as_a_part_by_a_sum_that_is_kept(self):
        hall = hall_of({"a": "", "a.b": ""}, packs="a")
        hall.run(rows("load a.b; drop a"))
        hall.tick()
        lay(hall, {"a": "set m 2; when b m+1"}, packs="a")
        self.check_rows(hall, "load a; load a.b as x; note x", ["main 3"])


class MayRows(HallTest):
    def test_done(self):
        hall = hall_of({"a": "", "a.b": "set n 1"}, packs="a")
        self.check_rows(hall, "may a.b as x; note x; note x.n", ["main <a.b>", "main 1"])

    def test_refused(self):
        hall = hall_of({"a": "fail why", "b": "set N 1", "c": "load a; note 1", "d": "drop d", "e": "note e"})
        hall.put_finder(Barred(("f",)))
        for name in ("a", "b", "c", "d", "e", "f", "g", "a.b", "c.a"):
            with self.subTest(name):
                self.check_rows(hall, f"set x 1; may {name} as x; note x", ["main 0"])
        self.assertEqual(hall.told(), [])

    def test_deep_within(self):
        hall = hall_of({"a": "may b as x; note x", "b": "load c; note 2", "c": "set n 1; load d",
                        "d": "note 4; fail why"})
        self.check_rows(hall, "load a", ["d 4", "a 0"])
        self.assertEqual(hall.log, ("begin a", "begin b", "begin c", "begin d", "note d 4", "refuse d", "refuse c",
                                    "refuse b", "note a 0", "end a"))
        self.assertEqual(hall.told(), ["a whole"])

    def test_the_innermost_takes_it(self):
        hall = hall_of({"a": "may b as x; note x", "b": "may c as x; note x", "c": "fail why"})
        self.check_rows(hall, "may a as x; note x", ["b 0", "a <b>", "main <a>"])

    def test_what_is_refused_by_the_looks(self):
        hall = hall_of({"a": "", "a.b": "drop a"}, packs="a")
        self.check_rows(hall, "may a.b as x; note x", ["main 0"])
        self.assertEqual(hall.told(), ["a.b whole"])

    def test_too_many_bodies(self):
        hall = hall_of({"a": "drop a; load a", "c": ""})
        hall.run("may a as x\nnote x\nload c")
        self.assertEqual(hall.log[-3:], ("note main 0", "begin c", "end c"))


class LaterRows(HallTest):
    def test_put_off(self):
        hall = hall_of({"a": "set n 1"})
        self.check_rows(hall, "later a as x; note x; load a; load a as y; note a; note y",
                        ["main <a>", "main <a>", "main <a>"])
        self.assertEqual(hall.told(), ["a waiting"])
        self.assertEqual(hall.names("a"), [])
        self.assertEqual(hall.forms.made, 0)

    def test_what_the_table_has(self):
        hall = hall_of({"a": "note 1", "a.b": "note 2"}, packs="a")
        self.check_rows(hall, "load a.b; later a.b as x; later a as y; note x; note y",
                        ["a 1", "a.b 2", "main <a.b>", "main <a>"])

    def test_its_elder_is_loaded(self):
        hall = hall_of({"a": "note 1", "a.b": "note 2"}, packs="a")
        self.check_rows(hall, "later a.b as x", ["a 1"])
        self.assertEqual(hall.told(), ["a whole", "a.b waiting"])
        self.assertEqual(hall.names("a"), ["b = <a.b>"])

    def test_its_waiting_elder_is_waked(self):
        hall = hall_of({"a": "note 1", "a.b": "note 2"}, packs="a")
        self.check_rows(hall, "later a as y; later a.b as x", ["a 1"])

    def test_what_its_elder_brings_is_had(self):
        hall = hall_of({"a": "load a.b", "a.b": "note 2"}, packs="a")
        self.check_rows(hall, "later a.b as x; note x", ["a.b 2", "main <a.b>"])

    def test_refused(self):
        hall = hall_of({"a": "", "b": "fail why"})
        hall.put_finder(Barred(("c",)))
        for name, error, fields in (("d", NotFound, {"name": "d"}), ("c", NotFound, {"name": "c"}),
                                    ("a.b", NotPack, {"name": "a.b"}), ("d.a", NotFound, {"name": "d"})):
            self.refuse_row(hall, f"later {name} as x", error, **fields)
        self.refuse_row(hall, "later b.a as x", Failed, trail=(("main", 0), ("b", 0)), word="why")
        self.assertEqual(hall.told(), ["a whole"])

    def test_a_body_that_cant_be_read_is_put_off(self):
        hall = hall_of({"a": "set N 1"})
        hall.run("later a as x")
        self.assertEqual(hall.told(), ["a waiting"])

    def test_another_name_is_loaded(self):
        hall = hall_of({"a": "note 1"})
        hall.put_finder(Other("b", "a"))
        self.check_rows(hall, "later b as x; note x", ["a 1", "main <a>"])
        self.assertEqual(hall.told(), ["a whole", "b whole"])

    def test_a_spread_one_and_a_built_one(self):
        hall = hall_of({"a.b": "note 1"})
        hall.put_finder(Built((("c", "note 2"),)))
        hall.run("later a as x\nlater c as y")
        self.assertEqual((hall.log, hall.told()), ((), ["a waiting", "c waiting"]))


class FromRows(HallTest):
    def test_a_part(self):
        hall = hall_of({"a": "set n 1; set m 2"})
        self.check_rows(hall, "from a take n; from a take m as p; note n; note p", ["main 1", "main 2"])
        self.assertEqual(hall.names("main", hand=True), ["n = 1", "p = 2"])

    def test_all_as_its_other_name(self):
        hall = hall_of({"a": "set n 1"})
        self.assertEqual(hall.run("from a take n as all\nnote all"), ["all"])

    def test_by_a_sum_that_is_kept(self):
        hall = hall_of({"a": "set n 1; when k n+1"})
        self.check_rows(hall, "from a take k; note k", ["main 2"])

    def test_what_is_beneath(self):
        hall = hall_of({"a": "set n 1", "a.b": "note 2"}, packs="a")
        self.check_rows(hall, "from a take b; note b; from a take b as c; note c",
                        ["a.b 2", "main <a.b>", "main <a.b>"])

    def test_a_name_comes_ahead_of_what_is_beneath(self):
        hall = hall_of({"a": "set b 1", "a.b": "note 2"}, packs="a")
        self.check_rows(hall, "from a take b; note b", ["main 1"])

    def test_a_part_that_is_lacking(self):
        hall = hall_of({"a": "", "b": "", "b.c": ""}, packs="b")
        self.refuse_row(hall, "from a take n", Lacking, module="a", part="n", half=False)
        self.refuse_row(hall, "from b take n", Lacking, module="b", part="n", half=False)
        self.refuse_row(hall, "from b.c take n", Lacking, module="b.c", part="n", half=False)

    def test_a_pack_of_four_parts(self):
        hall = hall_of({"a": "", "a.b": "", "a.b.c": "", "a.b.c.d": ""}, packs="a a.b a.b.c a.b.c.d")
        self.refuse_row(hall, "from a.b.c.d take n", Lacking, module="a.b.c.d", part="n", half=False)

    def test_a_half_pack(self):
        hall = hall_of({"a": "load a.b; set n 1", "a.b": "from a take n"}, packs="a")
        self.refuse_row(hall, "load a", Lacking, trail=(("main", 0), ("a", 0), ("a.b", 0)),
                        module="a", part="n", half=True)

    def test_a_row_within_that_finds_just_that_not(self):
        hall = hall_of({"a": "", "a.b": "load c", "c": "again a.b.d"}, packs="a")
        lay(hall, {"a.b": "load c", "c": "drop a.d", "a.d": "again a.d"}, packs="a.b")
        # the body of a.d drops its own name, so that its row again a.d finds just that not
        lay(hall, {"a.d": "drop a.d; again a.d"})
        self.refuse_row(hall, "from a take d", Lacking, module="a", part="d", half=False)
        self.assertEqual(hall.log, ("begin a", "end a", "begin a.d", "refuse a.d"))

    def test_any_other_refusal_goes_outwards(self):
        hall = hall_of({"a": "", "a.b": "load c", "a.c": "fail why", "a.d": "from a take e"}, packs="a")
        self.refuse_row(hall, "from a take b", NotFound, trail=(("main", 0), ("a.b", 0)), name="c")
        self.refuse_row(hall, "from a take c", Failed, trail=(("main", 0), ("a.c", 0)), word="why")
        self.refuse_row(hall, "from a take d", Lacking, trail=(("main", 0), ("a.d", 0)), module="a", part="e",
                        half=False)

    def test_the_name_is_the_rows_own(self):
        hall = hall_of({"a": "", "a.b": "set n 1", "c": "", "c.b": "set n 2"}, packs="a c")
        hall.put_finder(Other("c", "a"))
        hall.run("load c")
        hall.take_finder()
        # c leads to a, yet c.b is what is wanted beneath it
        self.check_rows(hall, "from c take b; note b; note b.n", ["main <c.b>", "main 2"])
        self.refuse_row(hall, "from c take d", Lacking, module="a", part="d", half=False)

    def test_a_waiting_one_beneath_is_taken_as_it_is(self):
        hall = hall_of({"a": "set m 1", "a.b": "set n 1"}, packs="a")
        hall.run(rows("later a.b as x; drop a; load a"))
        self.assertEqual(hall.names("a"), ["m = 1"])
        self.check_rows(hall, "from a take b; note b", ["main <a.b>"])
        self.assertEqual(hall.told(), ["a whole", "a.b waiting"])

    def test_dots_ahead(self):
        hall = hall_of({"a": "set n 1", "a.b": "from . take n; note n", "a.c": "from .b take n; note n",
                        "a.d": "from .. take n"}, packs="a")
        self.check_rows(hall, "load a.b; load a.c", ["a.b 1", "a.c 1"])
        self.refuse_row(hall, "load a.d", NotFound, trail=(("main", 0), ("a.d", 0)), name="..")

    def test_dots_ahead_in_a_pack(self):
        hall = hall_of({"a": "set n 1; from .b take n as m; note m; from . take m; from .c take k", "a.b": "set n 3",
                        "a.c": "set k 4"}, packs="a")
        self.check_rows(hall, "load a", ["a 3"])
        hall = hall_of({"a": "from .. take n"}, packs="a")
        self.refuse_row(hall, "load a", NotFound, trail=(("main", 0), ("a", 0)), name="..")

    def test_dots_ahead_in_a_spread_one_and_a_hand(self):
        hall = hall_of({"a": ""})
        for word in (".", "..", ".a", "..a", "....a.a"):
            self.refuse_row(hall, f"from {word} take n", NotFound, name=word)
        self.refuse_row(hall, "from .a take all", NotFound, name=".a")

    def test_dots_ahead_and_too_many_parts(self):
        hall = hall_of({"a": "from .a.b.c.d take n"}, packs="a")
        self.refuse_row(hall, "load a", NotFound, trail=(("main", 0), ("a", 0)), name=".a.b.c.d")


class FromAllRows(HallTest):
    def test_all_names(self):
        hall = hall_of({"a": "set n 1; set m 2; load b; when k 5", "b": ""})
        self.assertEqual(hall.run("from a take all"), ["b", "m", "n"])

    def test_what_is_shown(self):
        hall = hall_of({"a": "set n 1; set m 2; when k 5; show m k"})
        self.assertEqual(hall.run("from a take all\nnote k"), ["k", "m"])
        self.assertEqual(hall.log[-1], "note main 5")

    def test_what_is_shown_last(self):
        hall = hall_of({"a": "set n 1; set m 2; show m; show n"})
        self.assertEqual(hall.run("from a take all"), ["n"])

    def test_what_is_shown_and_beneath(self):
        hall = hall_of({"a": "show c b", "a.b": "note 2", "a.c": "note 3"}, packs="a")
        self.check_rows(hall, "from a take all; note b", ["a.c 3", "a.b 2", "main <a.b>"])

    def test_what_was_set_ahead_stays(self):
        hall = hall_of({"a": "set n 1; set p 4; show p m n"})
        self.refuse_row(hall, "from a take all", Lacking, module="a", part="m", half=False)
        self.assertEqual(hall.names("main", hand=True), ["p = 4"])

    def test_in_order(self):
        hall = hall_of({"a": "show c b", "a.b": "note 2", "a.c": "fail why"}, packs="a")
        self.refuse_row(hall, "from a take all", Failed, trail=(("main", 0), ("a.c", 0)), word="why")
        self.assertNotIn("begin a.b", hall.log)

    def test_names_as_they_are_then(self):
        # of a half module those that are set by then, in rising order
        hall = hall_of({"a": "set n 1; set b 3; load c; set m 2", "c": "from a take all"})
        hall.run("load a")
        self.assertEqual(hall.names("c"), ["b = 3", "n = 1"])

    def test_of_itself(self):
        hall = hall_of({"a": "set n 1; show p n; set p 3; from a take all; note p"})
        self.check_rows(hall, "load a", ["a 3"])

    def test_no_names(self):
        self.assertEqual(hall_of({"a": ""}).run("from a take all"), [])


class AgainRows(HallTest):
    def test_a_whole_one(self):
        hall = hall_of({"a": "note 1; set n 1"})
        hall.run("load a as x")
        hall.tick()
        lay(hall, {"a": "note n; set m 2"})
        self.check_rows(hall, "again a; note x.m; note x", ["a 1", "main 2", "main <a>"])
        self.assertEqual(hall.log[3:6], ("begin a", "note a 1", "end a"))
        self.assertEqual(hall.names("a"), ["m = 2", "n = 1"])

    def test_sums_and_list_stay(self):
        hall = hall_of({"a": "set n 1; when k n; show k"})
        hall.run("load a")
        hall.tick()
        lay(hall, {"a": "set n 2"})
        self.check_rows(hall, "again a; from a take all; note k", ["main 2"])

    def test_a_body_that_is_a_pack_now(self):
        hall = hall_of({"a": "", "a.b": "note 2"})
        hall.run("load a")
        hall.tick()
        lay(hall, {"a": ""}, packs="a")
        self.refuse_row(hall, "load a.b", NotPack, name="a.b")
        self.check_rows(hall, "again a; load a.b", ["a.b 2"])

    def test_beneath_a_pack(self):
        hall = hall_of({"a": "", "a.b": "note 2"}, packs="a")
        self.check_rows(hall, "load a.b; again a.b", ["a.b 2", "a.b 2"])

    def test_without_its_elder(self):
        hall = hall_of({"a": "", "a.b": "note 2"}, packs="a")
        hall.run(rows("load a.b; drop a"))
        self.refuse_row(hall, "again a.b", NotFound, name="a.b")
        hall.tick()
        lay(hall, {"a": ""})
        hall.run("load a")
        self.refuse_row(hall, "again a.b", NotFound, name="a.b")

    def test_beneath_a_waiting_elder(self):
        hall = hall_of({"a": "", "a.b": "note 2"}, packs="a")
        hall.run(rows("load a.b; drop a; later a as x"))
        self.refuse_row(hall, "again a.b", NotFound, name="a.b")

    def test_what_isnt_found_again(self):
        hall = hall_of({"a": "", "b": ""})
        hall.run("load a\nload b")
        hall.put_finder(Barred(("a",)))
        hall.put_finder(Other("b", "a"))
        for name in "ab":
            self.refuse_row(hall, f"again {name}", NotFound, name=name)
        hall.take_finder()
        hall.take_finder()
        hall.take_finder()
        self.refuse_row(hall, "again a", NotFound, name="a")
        self.assertEqual(hall.told(), ["a whole", "b whole"])

    def test_what_the_table_hasnt(self):
        self.refuse_row(hall_of({"a": ""}), "again a", NotFound, name="a")

    def test_under_another_name(self):
        hall = hall_of({"a": "note 1"})
        hall.put_finder(Other("b", "a"))
        hall.run("load b")
        self.refuse_row(hall, "again b", NotFound, name="b")
        hall.take_finder()
        self.refuse_row(hall, "again b", NotFound, name="b")

    def test_a_waiting_one(self):
        hall = hall_of({"a": "note 1"})
        hall.run("later a as x")
        self.refuse_row(hall, "again a", NotFound, name="a")
        self.assertEqual(hall.told(), ["a waiting"])

    def test_a_half_one_of_its_own(self):
        hall = hall_of({"a": "note 1; load b; note 2", "b": "again a; note 3"})
        self.check_rows(hall, "load a", ["a 1", "b 3", "a 2"])
        hall = hall_of({"a": "again a; note 1"})
        self.check_rows(hall, "load a; again a", ["a 1", "a 1"])

    def test_half_while_it_is_done_again(self):
        hall = hall_of({"a": "may b as x", "b": "load a; note 5", "c": "set n 1"})
        self.check_rows(hall, "load a; drop b; again a", ["b 5", "b 5"])

    def test_lost_again(self):
        hall = hall_of({"a": "set n 1; may b as x", "b": "drop a"})
        self.refuse_row(hall, "load a", Lost, name="a")
        hall = hall_of({"a": "set n 1"})
        hall.run("load a as x")
        hall.tick()
        lay(hall, {"a": "drop a"})
        self.refuse_row(hall, "again a", Lost, name="a")
        self.assertEqual(hall.told(), [])
        self.check_rows(hall, "note x.n", ["main 1"])


class DropRows(HallTest):
    def test_dropped(self):
        hall = hall_of({"a": "", "a.b": "note 1"}, packs="a")
        hall.run("load a.b\ndrop a.b")
        self.assertEqual(hall.told(), ["a whole"])
        self.assertEqual(hall.names("a"), ["b = <a.b>"])
        self.refuse_row(hall, "drop a.b", NotFound, name="a.b")

    def test_loaded_anew(self):
        hall = hall_of({"a": "set n 1"})
        self.check_rows(hall, "load a as x; drop a; load a as y; note x; note y", ["main <a>", "main <a>"])
        self.assertEqual(hall.log.count("begin a"), 2)

    def test_under_one_name_alone(self):
        hall = hall_of({"a": "set n 1"})
        hall.put_finder(Other("b", "a"))
        hall.run("load b\ndrop a")
        self.assertEqual(hall.told(), ["b whole"])
        self.check_rows(hall, "load b; note b.n", ["main 1"])

    def test_what_is_beneath_stays(self):
        hall = hall_of({"a": "", "a.b": "note 1"}, packs="a")
        hall.run("load a.b\ndrop a")
        self.assertEqual(hall.told(), ["a.b whole"])


if __name__ == "__main__":
    unittest.main()
