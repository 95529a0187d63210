"""Point 14: what wakes a waiting module, what is begun anew behind that, and what is left where waking is refused."""

import unittest

from loadhall.errors import Failed, Lacking, Lost, NoBody, NotFound
from loadhall.finders import Barred, Other
from things import HallTest, hall_of, lay, rows


class Waking(HallTest):
    def test_by_a_look_in_a_sum(self):
        hall = hall_of({"a": "note 1; set n 2"})
        self.check_rows(hall, "later a as x; note x; set p x.n+1; note p", ["main <a>", "a 1", "main 3"])
        self.assertEqual(hall.told(), ["a whole"])

    def test_by_the_looks_of_a_load_row(self):
        hall = hall_of({"a": "note 1; set n 2", "a.b": "note 3"}, packs="a")
        hall.run(rows("load a.b; drop a; later a as y"))
        self.check_rows(hall, "load a.b as x; note x", ["a 1", "main <a.b>"])
        self.assertEqual(hall.told(), ["a whole", "a.b whole"])

    def test_the_last_one_isnt_waked(self):
        hall = hall_of({"a": "note 1", "a.b": "note 2"}, packs="a")
        self.check_rows(hall, "later a.b as x; load a.b as y; load a.b; note y", ["a 1", "main <a.b>"])

    def test_by_taking(self):
        for row in ("from a take n", "from a take n as m", "from a take all"):
            hall = hall_of({"a": "note 1; set n 2"})
            self.check_rows(hall, f"later a as x; {row}", ["a 1"])

    def test_by_what_is_beneath(self):
        for row in ("load a.b", "later a.b as y", "may a.b as y"):
            hall = hall_of({"a": "note 1", "a.b": ""}, packs="a")
            self.check_rows(hall, f"later a as x; {row}", ["a 1"])

    def test_by_what_is_asked_from_outside(self):
        hall = hall_of({"a": "note 1; set n 2"})
        hall.run("later a as x")
        self.assertEqual(hall.worth("a", "n"), 2)
        self.assertEqual(hall.log, ("begin a", "note a 1", "end a"))

    def test_what_doesnt_wake(self):
        hall = hall_of({"a": "note 1"})
        self.check_rows(hall, "later a as x; set y x; load a; load a as z; may a as w; drop a", [])

    def test_by_the_hand_whose_row_looks(self):
        hall = hall_of({"a": "set n 1; note n"})
        hall.run("later a as x", hand="one")
        hall.begin("two", rows("from a take n; note n"))
        self.assertEqual(hall.step("two"), "went")
        self.assertEqual(hall.told(), ["a half"])
        self.assertEqual([hall.step("two") for _ in range(3)], ["went", "went", "ended"])
        self.assertEqual(hall.log, ("begin a", "note a 1", "end a", "note two 1"))

    def test_names_that_were_set_stay(self):
        hall = hall_of({"a": "", "a.b": "load c", "c": "drop a; later a as x"}, packs="a")
        # a.b is set in the waiting module that the table has for a by then
        hall.run("load a.b")
        self.assertEqual(hall.told(), ["a waiting", "a.b whole", "c whole"])
        hall.tick()
        lay(hall, {"a": "note b; set n 1"}, packs="a")
        self.check_rows(hall, "from a take n", ["a <a.b>"])
        self.assertEqual(hall.names("a"), ["b = <a.b>", "n = 1"])

    def test_a_spread_one(self):
        hall = hall_of({"a.b": "set n 1"})
        self.check_rows(hall, "later a as x; from a take b; note b.n", ["main 1"])

    def test_its_body_is_read_then(self):
        hall = hall_of({"a": "set n 1"})
        hall.run("later a as x")
        hall.tick()
        lay(hall, {"a": "set n 2"})
        self.check_rows(hall, "note x.n", ["main 2"])

    def test_a_body_that_looks_at_itself(self):
        hall = hall_of({"a": "set n 1; load a; note a.n; from a take n as m; note m"})
        self.check_rows(hall, "later a as x; note x.n", ["a 1", "a 1", "main 1"])


class Anew(HallTest):
    def test_the_whole_sum(self):
        hall = hall_of({"a": "set n 1", "c": "set n 7; again a"})
        hall.run("load a\nlater c as y")
        hall.tick()
        lay(hall, {"a": "set n 4"})
        # waking y set a.n anew, so the first term is another one behind it
        self.check_rows(hall, "note a.n+y.n", ["main 11"])

    def test_the_whole_sum_within_a_when(self):
        hall = hall_of({"a": "set n 1", "b": "later c as o; when k o.n", "c": "set n 7; again a"})
        hall.run("load a\nload b")
        hall.tick()
        lay(hall, {"a": "set n 4"})
        self.check_rows(hall, "note a.n+b.k", ["main 11"])

    def test_wants_that_are_over_are_not_wanted_again(self):
        hall = hall_of({"a": "", "a.b": "set n 1", "w": "drop a.b; set n 3"}, packs="a")
        hall.run(rows("load a.b; drop a"))
        hall.tick()
        lay(hall, {"a": "later w as o; when b o.n"}, packs="a")
        hall.run("load a")
        # the table has no a.b when the looks begin anew, and that isn't asked
        self.check_rows(hall, "load a.b as x; note x", ["main 3"])
        self.assertEqual(hall.told(), ["a whole", "w whole"])

    def test_the_looks_begin_at_the_table_again(self):
        hall = hall_of({"a": "", "a.b": "set n 1", "w": "drop a; load a; set n 3"}, packs="a")
        hall.run(rows("load a.b; drop a"))
        hall.tick()
        lay(hall, {"a": "later w as o; when b o.n"}, packs="a")
        hall.run("load a")
        self.check_rows(hall, "load a.b as x; note x", ["main 3"])

    def test_the_looks_begin_at_the_table_and_find_nothing(self):
        hall = hall_of({"a": "", "a.b": "set n 1", "w": "drop a; set n 3"}, packs="a")
        hall.run(rows("load a.b; drop a"))
        hall.tick()
        lay(hall, {"a": "later w as o; when b o.n"}, packs="a")
        hall.run("load a")
        self.refuse_row(hall, "load a.b as x", Lost, name="a")

    def test_the_taking(self):
        hall = hall_of({"a": "later w as o; when k o.n", "w": "set n 3; from a take o as o; load a; set m 1"})
        self.check_rows(hall, "from a take k; note k", ["main 3"])
        hall = hall_of({"a": "set p 2; later w as o; when k o.n; show p k", "w": "set n 3; note 4"})
        self.check_rows(hall, "from a take all; note p+k", ["w 4", "main 5"])

    def test_a_name_that_waking_sets_comes_first(self):
        hall = hall_of({"a": "later w as o; when k o.n", "w": "again a; set n 3"})
        hall.run("load a")
        hall.tick()
        lay(hall, {"a": "set k 9"})
        self.check_rows(hall, "from a take k; note k", ["main 9"])

    def test_one_behind_the_other(self):
        hall = hall_of({"a": "note 1; set n 1", "b": "note 2; set n 2", "c": "note 3; set n 3"})
        self.check_rows(hall, "later a as x; later b as y; later c as z; note x.n+y.n+z.n",
                        ["a 1", "b 2", "c 3", "main 6"])


class RefusedAhead(HallTest):
    def refuse_waking(self, hall, error, **fields):
        for row in ("note x.n", "from a take n", "from a take all"):
            logged = len(hall.log)
            self.refuse_row(hall, row, error, **fields)
            self.assertEqual(hall.told(), ["a waiting"])
            self.assertEqual(hall.log[logged:], ())

    def test_a_body_that_cant_be_read(self):
        hall = hall_of({"a": "set N 1"})
        hall.run("later a as x")
        self.refuse_waking(hall, NoBody, row=0)

    def test_what_isnt_found_any_more(self):
        hall = hall_of({"a": "set n 1"})
        hall.run("later a as x")
        hall.take("s", "a")
        self.refuse_waking(hall, NotFound, name="a")

    def test_what_is_barred_or_another_name_by_now(self):
        for finder in (Barred(("a",)), Other("a", "b")):
            hall = hall_of({"a": "set n 1", "b": "set n 2"})
            hall.run("later a as x")
            hall.put_finder(finder)
            self.refuse_waking(hall, NotFound, name="a")

    def test_without_its_elder(self):
        hall = hall_of({"a": "", "a.b": "set n 1"}, packs="a")
        hall.run(rows("later a.b as x; drop a"))
        self.refuse_row(hall, "note x.n", NotFound, name="a.b")
        self.refuse_row(hall, "from a.b take n", NotFound, name="a.b")
        self.assertEqual(hall.told(), ["a.b waiting"])

    def test_it_may_be_waked_later_on(self):
        hall = hall_of({"a": "set n 1"})
        hall.run("later a as x")
        hall.put_finder(Barred(("a",)))
        self.refuse_waking(hall, NotFound, name="a")
        hall.take_finder()
        self.check_rows(hall, "note x.n", ["main 1"])

    def test_what_was_set_in_it_stays(self):
        hall = hall_of({"a": "", "a.b": "load c", "c": "drop a; later a as x"}, packs="a")
        hall.run("load a.b")
        self.assertEqual(hall.told(), ["a waiting", "a.b whole", "c whole"])
        self.assertEqual(hall.names("a"), ["b = <a.b>"])
        hall.put_finder(Barred(("a",)))
        self.refuse_row(hall, "from a take b", NotFound, name="a")
        self.assertEqual(hall.names("a"), ["b = <a.b>"])
        hall.take_finder()
        self.check_rows(hall, "from a take b; note b", ["main <a.b>"])


class RefusedBehind(HallTest):
    def test_it_waits_again_without_anything(self):
        hall = hall_of({"a": "set n 1; when k 2; show n; fail why"}, packs="a")
        self.refuse_row(hall, "later a as x; note x.n", Failed, trail=(("main", 1), ("a", 3)), word="why")
        self.assertEqual(hall.log, ("begin a", "refuse a"))
        self.assertEqual((hall.told(), hall.names("a")), (["a waiting"], []))
        hall.tick()
        lay(hall, {"a": "set m 1"})
        self.check_rows(hall, "from a take all; note m", ["main 1"])
        self.refuse_row(hall, "from a take k", Lacking, module="a", part="k", half=False)
        self.refuse_row(hall, "from a take b", Lacking, module="a", part="b", half=False)

    def test_it_is_in_the_table_all_along(self):
        hall = hall_of({"a": "may b as x; note x; fail why", "b": "load a; fail so"})
        self.refuse_row(hall, "later a as x; from a take n", Failed, trail=(("main", 1), ("a", 2)), word="why")
        self.assertEqual(hall.log, ("begin a", "begin b", "refuse b", "note a 0", "refuse a"))
        self.assertEqual(hall.told(), ["a waiting"])

    def test_a_may_row_takes_it(self):
        hall = hall_of({"a": "set n 1; fail why", "a.b": ""}, packs="a")
        self.check_rows(hall, "later a as x; may a.b as y; note y", ["main 0"])
        self.assertEqual(hall.told(), ["a waiting"])

    def test_one_that_the_table_no_longer_has(self):
        hall = hall_of({"a": "note 1; set n 1"})
        self.refuse_row(hall, "later a as x; drop a; note x.n", Lost, trail=(("main", 2),), name="a")
        self.assertEqual(hall.log, ("begin a", "note a 1", "refuse a"))
        self.assertEqual(hall.told(), [])
        self.refuse_row(hall, "note x.n", Lost, name="a")
        self.assertEqual(hall.log.count("begin a"), 2)

    def test_one_in_whose_place_another_stands(self):
        hall = hall_of({"a": "note 1; set n 1"})
        self.refuse_row(hall, "later a as x; drop a; load a; note x.n", Lost, trail=(("main", 3),), name="a")
        self.check_rows(hall, "note a.n", ["main 1"])

    def test_what_it_loaded_stays(self):
        hall = hall_of({"a": "load b; fail why", "b": "set n 1"})
        self.refuse_row(hall, "later a as x; note x.n", Failed, trail=(("main", 1), ("a", 1)), word="why")
        self.assertEqual(hall.told(), ["a waiting", "b whole"])


if __name__ == "__main__":
    unittest.main()
