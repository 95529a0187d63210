"""Points 15 and 16: what is left where a row is refused, the error's trail, and the log."""

import unittest

from loadhall.errors import Failed, Lacking, Lost, NoBody, NotFound, NotPack, Stuck, TooDeep
from loadhall.finders import Other
from things import HallTest, hall_of, lay


class OfALoad(HallTest):
    def test_further_rows_arent_done(self):
        hall = hall_of({"a": "note 1; fail why; note 2"})
        self.refuse_row(hall, "note 0; load a; note 3", Failed, trail=(("main", 1), ("a", 1)), word="why")
        self.assertEqual(hall.log, ("note main 0", "begin a", "note a 1", "refuse a"))
        self.assertEqual(hall.hands(), [])

    def test_no_name_leads_to_it(self):
        hall = hall_of({"b": "load c; fail why", "c": "load a"})
        hall.put_finder(Other("a", "b"))
        # the table had a lead to b, too, while b was half
        self.refuse_row(hall, "load b", Failed, trail=(("main", 0), ("b", 1)), word="why")
        self.assertEqual(hall.told(), ["c whole"])
        self.assertEqual(hall.names("c"), ["a = <b>"])

    def test_it_stays_half_where_it_was_taken(self):
        hall = hall_of({"a": "set n 1; load b; fail why", "b": "load a"})
        self.refuse_row(hall, "load a", Failed, trail=(("main", 0), ("a", 2)), word="why")
        self.assertEqual(hall.told(), ["b whole"])
        self.check_rows(hall, "load b; note b.a.n", ["main 1"])
        self.refuse_row(hall, "note b.a.m", Lacking, module="a", part="m", half=True)

    def test_what_became_whole_stays(self):
        hall = hall_of({"a": "load b; fail why", "b": "set n 1"})
        self.refuse_row(hall, "load a", Failed, trail=(("main", 0), ("a", 1)), word="why")
        self.assertEqual(hall.told(), ["b whole"])

    def test_it_is_begun_anew_the_next_time(self):
        hall = hall_of({"a": "load b; set n 1"})
        self.refuse_row(hall, "load a", NotFound, trail=(("main", 0), ("a", 0)), name="b")
        lay(hall, {"b": ""}, part="t")
        hall.set_path(("s", "t"))
        self.check_rows(hall, "load a; note a.n", ["main 1"])
        self.assertEqual(hall.log.count("begin a"), 2)

    def test_another_one_in_its_place_stays(self):
        hall = hall_of({"a": "load b; fail why", "b": "drop a; later a as x"})
        self.refuse_row(hall, "load a", Failed, trail=(("main", 0), ("a", 1)), word="why")
        self.assertEqual(hall.told(), ["a waiting", "b whole"])

    def test_own_names_stay(self):
        hall = hall_of({})
        self.refuse_row(hall, "set p 1; fail why; set q 2", Failed, trail=(("main", 1),), word="why")
        self.assertEqual(hall.names("main", hand=True), ["p = 1"])
        self.assertEqual(hall.log, ())
        self.assertEqual(hall.run("set q 3"), ["p", "q"])


class OfAgain(HallTest):
    def test_it_is_whole(self):
        hall = hall_of({"a": "set n 1"})
        hall.run("load a")
        hall.tick()
        lay(hall, {"a": "set m 2; fail why; set p 3", "a.b": ""}, packs="a")
        self.refuse_row(hall, "again a", Failed, trail=(("main", 0), ("a", 1)), word="why")
        self.assertEqual(hall.told(), ["a whole"])
        self.assertEqual(hall.names("a"), ["m = 2", "n = 1"])
        self.assertEqual(hall.log[-2:], ("begin a", "refuse a"))
        # its places are those that were found again
        hall.run("load a.b")
        self.assertEqual(hall.told(), ["a whole", "a.b whole"])

    def test_ahead_of_its_begin_nothing_is_changed(self):
        hall = hall_of({"a": "set n 1"})
        hall.run("load a")
        hall.tick()
        lay(hall, {"a": "set N 1", "a.b": ""}, packs="a")
        self.refuse_row(hall, "again a", NoBody, row=0)
        self.assertEqual((hall.told(), hall.log), (["a whole"], ("begin a", "end a")))
        self.refuse_row(hall, "load a.b", NotPack, name="a.b")

    def test_dropped_on_the_way(self):
        hall = hall_of({"a": "set n 1"})
        hall.run("load a as x")
        hall.tick()
        lay(hall, {"a": "drop a; fail why"})
        self.refuse_row(hall, "again a", Failed, trail=(("main", 0), ("a", 1)), word="why")
        self.assertEqual(hall.told(), [])
        self.assertEqual(hall.names("main", hand=True), ["x = <a>"])


class Trails(HallTest):
    def test_from_the_hands_row_in(self):
        hall = hall_of({"a": "note 1; load b", "b": "load c", "c": "note 2; note 3; note p"})
        self.refuse_row(hall, "note 0; load a", Lacking, trail=(("main", 1), ("a", 1), ("b", 0), ("c", 2)),
                        module="c", part="p", half=True)
        self.assertEqual(hall.log[-3:], ("refuse c", "refuse b", "refuse a"))

    def test_of_another_hand(self):
        hall = hall_of({"a": "fail why"})
        self.refuse(Failed, {"trail": (("x", 0), ("a", 0)), "word": "why"}, hall.run, "load a", hand="x")

    def test_a_body_that_cant_be_read_or_isnt_found(self):
        hall = hall_of({"a": "load b", "b": "set N 1", "c": "load d"})
        self.refuse_row(hall, "load a", NoBody, trail=(("main", 0), ("a", 0)), row=0)
        self.refuse_row(hall, "load c", NotFound, trail=(("main", 0), ("c", 0)), name="d")

    def test_a_body_that_is_lost(self):
        hall = hall_of({"a": "note 1; load b", "b": "drop b; note 2"})
        self.refuse_row(hall, "load a", Lost, trail=(("main", 0), ("a", 1)), name="b")
        self.assertEqual(hall.log[-2:], ("refuse b", "refuse a"))

    def test_of_an_elder(self):
        hall = hall_of({"a": "note 1; fail why", "a.b": ""}, packs="a")
        self.refuse_row(hall, "load a.b", Failed, trail=(("main", 0), ("a", 1)), word="why")

    def test_of_another_name(self):
        hall = hall_of({"b": "fail why"})
        hall.put_finder(Other("a", "b"))
        self.refuse_row(hall, "load a", Failed, trail=(("main", 0), ("b", 0)), word="why")
        self.assertEqual(hall.told(), [])

    def test_of_waking_within_a_sum_that_is_kept(self):
        hall = hall_of({"a": "later b as o; when k o.n", "b": "fail why"})
        self.refuse_row(hall, "load a; note a.k", Failed, trail=(("main", 1), ("b", 0)), word="why")

    def test_of_a_sum_that_is_kept(self):
        hall = hall_of({"a": "when k n"})
        self.refuse_row(hall, "load a; note 1; note a.k", Lacking, trail=(("main", 2),), module="a", part="n",
                        half=False)

    def test_a_part_that_is_lacking_ends_at_its_own_row(self):
        hall = hall_of({"a": "", "a.b": "note 1", "c": "from a take d"}, packs="a")
        self.refuse_row(hall, "load c", Lacking, trail=(("main", 0), ("c", 0)), module="a", part="d", half=False)

    def test_where_no_row_was_refused(self):
        hall = hall_of({"a": ""})
        self.refuse(NoBody, {"row": 1, "trail": ()}, hall.run, "note 1\nnote")
        self.refuse(NotFound, {"name": "a", "trail": ()}, hall.worth, "a", "n")
        self.refuse(NotFound, {"name": "a", "trail": ()}, hall.names, "a")


class Log(HallTest):
    def test_all_texts_in_order(self):
        hall = hall_of({"a": "note 1; load b; note 3", "b": "note 2", "c": "note 4; fail why"})
        self.assertEqual(hall.log, ())
        hall.run("load a")
        hall.run("note 0", hand="x")
        hall.run("may c as y")
        self.assertEqual(hall.log, ("begin a", "note a 1", "begin b", "note b 2", "end b", "note a 3", "end a",
                                    "note x 0", "begin c", "note c 4", "refuse c"))
        self.assertIs(type(hall.log), tuple)

    def test_a_hands_own_rows_leave_nothing(self):
        hall = hall_of({})
        hall.run("set n 1\ndel n\nmay a as x")
        self.refuse_row(hall, "load b", NotFound, name="b")
        self.assertEqual(hall.log, ())

    def test_what_was_told_stays_as_it_was(self):
        hall = hall_of({"a": ""})
        told = hall.log
        hall.run("load a")
        self.assertEqual((told, hall.log), ((), ("begin a", "end a")))

    def test_step_by_step(self):
        hall = hall_of({"a": "note 1; note 2"})
        hall.begin("x", "load a")
        logs = []
        while hall.hands():
            hall.step("x")
            logs.append(hall.log)
        self.assertEqual(logs, [("begin a",), ("begin a", "note a 1"), ("begin a", "note a 1", "note a 2", "end a")])


class StuckRows(HallTest):
    def half_done(self, bodies, **named):
        """A hall in which the hand x has begun a's body, and no more."""
        hall = hall_of({"a": "note 1; set n 1", **bodies}, **named)
        hall.begin("x", "load a")
        hall.step("x")
        return hall

    def test_the_row_that_would_wait(self):
        hall = self.half_done({"b": "note 2; load a"})
        self.refuse_row(hall, "load a", Stuck, hand="x")
        self.refuse_row(hall, "load b", Stuck, trail=(("main", 0), ("b", 1)), hand="x")
        self.assertEqual(hall.log, ("begin a", "begin b", "note b 2", "refuse b"))
        self.assertEqual((hall.told(), hall.hands()), (["a half"], ["x"]))

    def test_may_rows_dont_take_it(self):
        hall = self.half_done({"b": "may a as x"})
        self.refuse_row(hall, "may a as y", Stuck, hand="x")
        self.refuse_row(hall, "may b as y", Stuck, trail=(("main", 0), ("b", 0)), hand="x")
        self.assertEqual(hall.names("main", hand=True), [])

    def test_every_row_that_wants(self):
        for row in ("load a", "load a as y", "later a as y", "from a take n", "from a take all", "again a", "load a.b"):
            hall = self.half_done({"a.b": ""})
            with self.subTest(row):
                self.refuse_row(hall, row, Stuck, hand="x")

    def test_looks_dont_wait(self):
        hall = hall_of({"a": "set n 1; load b; set m 2", "b": "note 1"})
        hall.begin("x", "load a")
        for _ in range(3):
            hall.step("x")
        self.assertEqual(hall.worth("a", "n"), 1)
        self.refuse(Lacking, {"module": "a", "part": "m", "half": True, "trail": (("", 0),)}, hall.worth, "a", "m")

    def test_the_other_hand_goes_on(self):
        hall = self.half_done({})
        self.refuse_row(hall, "load a", Stuck, hand="x")
        self.assertEqual([hall.step("x"), hall.step("x")], ["went", "ended"])
        self.check_rows(hall, "load a; note a.n", ["main 1"])


if __name__ == "__main__":
    unittest.main()
