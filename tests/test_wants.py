"""Point 12: wanting a name, from the table, over its elder and the finders, to the body behind its last row."""

import unittest

from loadhall.errors import Lacking, Lost, NoBody, NotFound, NotPack, TooDeep
from loadhall.finders import Along, Barred, Built, Other
from things import HallTest, hall_of, lay


def chain(many, last):
    """Bodies naa, nab, .. of which each loads the next one; the last one has these rows."""
    names = ["n" + chr(97 + at // 26) + chr(97 + at % 26) for at in range(many)]
    return {**{name: f"load {following}" for name, following in zip(names, names[1:])}, names[-1]: last}


class FromTheTable(HallTest):
    def test_a_name_loaded_twice(self):
        hall = hall_of({"a": "set n 1; note n"})
        self.check_rows(hall, "load a; load a as x; load a as y; note x; note y", ["a 1", "main <a>", "main <a>"])
        self.assertEqual(hall.log, ("begin a", "note a 1", "end a", "note main <a>", "note main <a>"))
        self.check_rows(hall, "load a; note a.n", ["main 1"])

    def test_one_module_for_all_hands(self):
        hall = hall_of({"a": "set n 1"})
        hall.run("load a", hand="x")
        hall.run("load a\nnote a.n", hand="y")
        self.assertEqual(hall.log, ("begin a", "end a", "note y 1"))

    def test_a_ring_of_loads(self):
        hall = hall_of({"a": "set p 1; load b; set q 2; note b.n", "b": "load a; note a.p; set n 3"})
        self.check_rows(hall, "load a; note a.q", ["b 1", "a 3", "main 2"])
        self.assertEqual(hall.log[:2], ("begin a", "begin b"))
        self.assertEqual(hall.told(), ["a whole", "b whole"])

    def test_a_ring_of_one(self):
        hall = hall_of({"a": "set n 1; load a; note a.n; from a take n as m"})
        self.check_rows(hall, "load a", ["a 1"])
        self.assertEqual(hall.names("a"), ["a = <a>", "m = 1", "n = 1"])

    def test_taken_of_a_half_module(self):
        hall = hall_of({"a": "set n 1; load b; set m 2", "b": "from a take m"})
        self.refuse_row(hall, "load a", Lacking, trail=(("main", 0), ("a", 1), ("b", 0)),
                        module="a", part="m", half=True)
        hall = hall_of({"a": "set n 1; load b; set m 2", "b": "from a take all"})
        hall.run("load a")
        self.assertEqual(hall.names("b"), ["n = 1"])


class Elders(HallTest):
    def test_elders_are_loaded_first(self):
        hall = hall_of({"a": "", "a.b": "", "a.b.c": "", "a.b.c.d": "set n 1"}, packs="a a.b a.b.c")
        self.check_rows(hall, "load a.b.c.d as x; note x.n", ["main 1"])
        self.assertEqual(hall.log[:8], ("begin a", "end a", "begin a.b", "end a.b", "begin a.b.c", "end a.b.c",
                                        "begin a.b.c.d", "end a.b.c.d"))

    def test_what_is_beneath_is_set_in_the_elder(self):
        hall = hall_of({"a": "", "a.b": "set n 1"}, packs="a")
        self.check_rows(hall, "load a.b; note a.b; note a.b.n", ["main <a.b>", "main 1"])
        self.assertEqual(hall.names("a"), ["b = <a.b>"])

    def test_it_is_set_behind_its_last_row(self):
        hall = hall_of({"a": "", "a.b": "load a; note a.b"}, packs="a")
        self.refuse_row(hall, "load a.b", Lacking, trail=(("main", 0), ("a.b", 1)), module="a", part="b", half=False)

    def test_an_elder_that_loads_it(self):
        hall = hall_of({"a": "load a.b", "a.b": "note 1"}, packs="a")
        self.check_rows(hall, "load a.b", ["a.b 1"])
        self.assertEqual(hall.log, ("begin a", "begin a.b", "note a.b 1", "end a.b", "end a"))

    def test_an_elder_that_is_no_pack(self):
        hall = hall_of({"a": "", "a.b": ""})
        self.refuse_row(hall, "load a.b", NotPack, name="a.b")
        self.assertEqual(hall.told(), ["a whole"])
        self.refuse_row(hall, "load a.b.c", NotPack, name="a.b")

    def test_an_elder_that_isnt_found(self):
        hall = hall_of({"a.b": ""}, path=("t", "s"))
        hall.set_path(("t",))
        self.refuse_row(hall, "load a.b", NotFound, name="a")

    def test_what_is_beneath_a_pack_is_looked_for_in_its_store_alone(self):
        hall = hall_of({"a": ""}, path=("s", "t"), packs="a")
        lay(hall, {"a.b": "", "a": ""}, part="t", packs="a")
        self.refuse_row(hall, "load a.b", NotFound, name="a.b")
        self.assertEqual(hall.log, ("begin a", "end a"))

    def test_a_waiting_elder_is_waked(self):
        hall = hall_of({"a": "note 1", "a.b": "note 2"}, packs="a")
        self.check_rows(hall, "later a as x; note 0; load a.b", ["main 0", "a 1", "a.b 2"])

    def test_what_a_waked_elder_loads_is_had(self):
        hall = hall_of({"a": "load a.b; set b 7", "a.b": "note 2"}, packs="a")
        self.check_rows(hall, "later a as x; load a.b; note a.b", ["a.b 2", "main 7"])

    def test_the_places_are_those_of_the_module_that_is_had(self):
        hall = hall_of({"a": "", "b": "", "b.c": "set n 1"}, packs="a")
        hall.put_finder(Other("b", "a"))
        hall.run("load b")
        hall.take_finder()
        # b is the pack a now, and what is beneath it is found and set as that one's
        hall.run("load b.c")
        self.assertEqual(hall.told(), ["a whole", "b whole", "b.c whole"])
        self.assertEqual(hall.names("a"), ["c = <b.c>"])


class Spread(HallTest):
    def test_a_spread_name(self):
        hall = hall_of({"a.b": "note 1"}, path=("s", "t"))
        lay(hall, {"a.c": "note 2"}, part="t")
        self.check_rows(hall, "load a.b; load a.c; note a.b; note a.c", ["a.b 1", "a.c 2", "main <a.b>", "main <a.c>"])
        self.assertEqual(hall.log[:2], ("begin a", "end a"))

    def test_a_body_comes_first(self):
        hall = hall_of({"a.b": "note 1"}, path=("s", "t"))
        lay(hall, {"a": "note 2"}, part="t")
        self.refuse_row(hall, "load a.b", NotPack, name="a.b")
        self.assertEqual(hall.log, ("begin a", "note a 2", "end a"))

    def test_spread_within_a_pack(self):
        hall = hall_of({"a": "", "a.b.c": "note 3"}, packs="a", path=("s", "t"))
        lay(hall, {"a.b.d": "note 4"}, part="t")
        self.check_rows(hall, "load a.b.c", ["a.b.c 3"])
        # the elder's store alone holds what is spread beneath it
        self.refuse_row(hall, "load a.b.d", NotFound, name="a.b.d")

    def test_taking_what_is_beneath(self):
        hall = hall_of({"a.b": "note 1"})
        self.check_rows(hall, "from a take b; note b", ["a.b 1", "main <a.b>"])
        self.refuse_row(hall, "from a take c", Lacking, module="a", part="c", half=False)


class Finders(HallTest):
    def test_none_finds_it(self):
        hall = hall_of({"a": ""})
        self.refuse_row(hall, "load b", NotFound, name="b")
        self.assertEqual((hall.log, hall.told()), ((), []))

    def test_no_finder_at_all(self):
        hall = hall_of({"a": ""})
        hall.take_finder()
        self.refuse_row(hall, "load a", NotFound, name="a")

    def test_barred(self):
        hall = hall_of({"a": "", "b": ""})
        hall.put_finder(Barred(("a",)))
        self.refuse_row(hall, "load a", NotFound, name="a")
        hall.run("load b")
        hall.put_finder(Built((("a", "note 1"),)))
        self.check_rows(hall, "load a", ["a 1"])

    def test_barred_behind_another(self):
        hall = hall_of({"a": "note 1"})
        hall.put_finder(Barred(("a",)), at=1)
        self.check_rows(hall, "load a", ["a 1"])

    def test_what_is_had_isnt_barred(self):
        hall = hall_of({"a": "set n 1"})
        hall.run("load a")
        hall.put_finder(Barred(("a",)))
        self.check_rows(hall, "load a; note a.n", ["main 1"])

    def test_a_barred_elder(self):
        hall = hall_of({"a": "", "a.b": ""}, packs="a")
        hall.put_finder(Barred(("a",)))
        self.refuse_row(hall, "load a.b", NotFound, name="a")

    def test_built(self):
        hall = hall_of({"a": "note 1"})
        hall.put_finder(Built((("a", "note 2\nset n 3"), ("b", ""))))
        self.check_rows(hall, "load a; note a.n; load b", ["a 2", "main 3"])
        self.assertEqual(hall.forms.made, 0)
        self.refuse_row(hall, "load b.c", NotPack, name="b.c")

    def test_built_beneath_a_pack(self):
        hall = hall_of({"a": ""}, packs="a")
        hall.put_finder(Built((("a.b", "note 2"),)))
        self.check_rows(hall, "load a.b", ["a.b 2"])

    def test_along_in_its_order(self):
        hall = hall_of({"a": "note 1"}, path=("s", "t"))
        lay(hall, {"a": "note 2", "b": "note 3"}, part="t")
        self.check_rows(hall, "load a; load b", ["a 1", "b 3"])
        hall.set_path(("t", "s"))
        self.check_rows(hall, "drop a; load a", ["a 2"])

    def test_two_of_them(self):
        hall = hall_of({"a": "note 1"})
        hall.put_finder(Along())
        self.assertEqual([finder.word for finder in hall.finders], ["along", "along"])
        self.check_rows(hall, "load a", ["a 1"])


class Others(HallTest):
    def test_another_name(self):
        hall = hall_of({"b": "set n 1"})
        hall.put_finder(Other("a", "b"))
        self.check_rows(hall, "load a; note a; note a.n; load b as x; note x", ["main <b>", "main 1", "main <b>"])
        self.assertEqual(hall.log[:2], ("begin b", "end b"))
        self.assertEqual(hall.told(), ["a whole", "b whole"])

    def test_what_is_beneath_another_name(self):
        hall = hall_of({"b": "", "b.c": "set n 1"}, packs="b")
        hall.put_finder(Other("a", "b"))
        self.check_rows(hall, "load a.c; note a.c.n", ["main 1"])
        self.assertEqual(hall.told(), ["a whole", "a.c whole", "b whole", "b.c whole"])
        # a's module is b, in which c was set by its own name
        self.assertEqual(hall.names("a"), ["c = <b.c>"])

    def test_nothing_is_set_in_the_elder(self):
        hall = hall_of({"a": "", "c": ""}, packs="a")
        hall.put_finder(Other("a.b", "c"))
        hall.run("load a.b")
        self.assertEqual(hall.names("a"), [])
        self.check_rows(hall, "load a.b as x; note x", ["main <c>"])

    def test_too_many_parts(self):
        hall = hall_of({"p": "", "p.q": "", "p.q.r": "", "p.q.r.s": ""}, packs="p p.q p.q.r p.q.r.s")
        hall.put_finder(Other("a", "p.q.r.s"))
        self.refuse_row(hall, "load a.b", NotFound, name="a.b")
        self.check_rows(hall, "load a; note a", ["main <p.q.r.s>"])

    def test_a_ring_of_others(self):
        hall = hall_of({})
        for old, new in (("a", "b"), ("b", "c"), ("c", "a")):
            hall.put_finder(Other(old, new))
        for name in "abc":
            self.refuse_row(hall, f"load {name}", TooDeep, name=name)
        self.assertEqual(hall.told(), [])

    def test_a_name_that_is_its_own_other(self):
        hall = hall_of({"a": ""})
        hall.put_finder(Other("a", "a"))
        self.refuse_row(hall, "load a", TooDeep, name="a")

    def test_a_name_beneath_its_own_other(self):
        hall = hall_of({"a": ""}, packs="a")
        hall.put_finder(Other("a", "a.b"))
        self.refuse_row(hall, "load a", TooDeep, name="a")

    def test_a_ring_over_a_body(self):
        hall = hall_of({"b": "load a"})
        hall.put_finder(Other("a", "b"))
        self.refuse_row(hall, "load a", TooDeep, trail=(("main", 0), ("b", 0)), name="a")
        self.assertEqual(hall.log, ("begin b", "refuse b"))
        self.check_rows(hall_of({"b": "load b"}), "load b", [])

    def test_a_ring_over_a_later_row(self):
        hall = hall_of({"b": "later a as x"})
        hall.put_finder(Other("a", "b"))
        self.refuse_row(hall, "load a", TooDeep, trail=(("main", 0), ("b", 0)), name="a")

    def test_the_name_is_led_to_its_other_once_more(self):
        hall = hall_of({"b": "drop b"})
        hall.put_finder(Other("a", "b"))
        self.refuse_row(hall, "load a", Lost, name="b")
        self.assertEqual(hall.told(), [])


class Bodies(HallTest):
    def test_a_body_that_cant_be_read(self):
        hall = hall_of({"a": "set n 1; set N 1", "b": "load a"})
        self.refuse_row(hall, "load a", NoBody, row=1)
        self.refuse_row(hall, "load b", NoBody, trail=(("main", 0), ("b", 0)), row=1)
        self.assertEqual(hall.log, ("begin b", "refuse b"))
        hall.put("s", "c", "\n".join(["note 1"] * 13))
        hall.tick()
        hall.put("s", "d", "")
        self.refuse_row(hall, "load c", NoBody, row=None)

    def test_a_built_body_that_cant_be_read(self):
        hall = hall_of({})
        hall.put_finder(Built((("a", "\n"),)))
        self.refuse_row(hall, "load a", NoBody, row=0)

    def test_forms_are_kept(self):
        hall = hall_of({"a": "note 1"})
        hall.run("load a\ndrop a\nload a")
        self.assertEqual((hall.forms.made, hall.forms.kept), (1, 1))

    def test_a_stale_form_and_a_stale_list(self):
        hall = hall_of({"a": "note 1"})
        self.check_rows(hall, "load a; drop a", ["a 1"])
        lay(hall, {"a": "note 2", "b": "note 3"})
        self.check_rows(hall, "load a; drop a", ["a 1"])
        self.refuse_row(hall, "load b", NotFound, name="b")
        hall.tick()
        lay(hall, {"a": "note 4"})
        self.check_rows(hall, "load a; load b", ["a 4", "b 3"])

    def test_by_the_sum_no_form_is_stale(self):
        hall = hall_of({"a": "note 1"}, check="sum")
        hall.run("load a\ndrop a")
        lay(hall, {"a": "note 2"})
        self.check_rows(hall, "load a", ["a 2"])

    def test_a_body_that_drops_itself(self):
        hall = hall_of({"a": "set n 1; drop a; note n"})
        self.refuse_row(hall, "load a", Lost, name="a")
        self.assertEqual(hall.log, ("begin a", "note a 1", "refuse a"))
        self.assertEqual(hall.told(), [])

    def test_a_body_in_whose_place_another_stands(self):
        hall = hall_of({"a": "load b", "b": "drop a; may a as x"})
        self.refuse_row(hall, "load a", Lost, name="a")
        # the second a found b half, dropped nothing, and stands
        self.assertEqual(hall.log, ("begin a", "begin b", "begin a", "end a", "end b", "refuse a"))
        self.assertEqual(hall.told(), ["a whole", "b whole"])

    def test_two_hundred_bodies_within_one_another(self):
        hall = hall_of({"a": "drop a; load a"})
        self.refuse_row(hall, "load a", TooDeep, name="a", trail=(("main", 0),) + (("a", 1),) * 200)
        self.assertEqual(hall.log, ("begin a",) * 200 + ("refuse a",) * 200)
        self.assertEqual(hall.told(), [])

    def test_just_two_hundred_bodies(self):
        bodies = chain(201, "set n 1")
        names = list(bodies)
        hall = hall_of(bodies)
        self.refuse_row(hall, f"load {names[0]}", TooDeep, name=names[200],
                        trail=(("main", 0), *[(name, 0) for name in names[:200]]))
        hall.run(f"load {names[1]}")
        self.assertEqual(len(hall.told()), 200)
        # the next own row counts from the beginning
        hall.run(f"load {names[0]}")
        hall = hall_of({"a": "", "b": "load a; drop a; load a; drop a; load a; drop a; load a; drop a; load a; drop a"})
        hall.run("\n".join(["load b\ndrop b"] * 20))
        self.assertEqual(hall.log.count("begin a"), 100)

    def test_bodies_beside_one_another_count_too(self):
        ten = "; ".join(["load a; drop a"] * 6)
        hall = hall_of({"a": "", "b": ten, "c": "; ".join(["load b; drop b"] * 6),
                        "d": "; ".join(["load c; drop c"] * 5)})
        self.refuse(TooDeep, {"name": "a"}, hall.run, "load d")
        begun = [text for text in hall.log if text.startswith("begin")]
        self.assertEqual(len(begun), 200)

    def test_spread_and_again_and_waked_ones_count_too(self):
        for ahead, last, name in (("load y", "again y", "y"), ("", "load z", "z"), ("", "later y as x; note x.n", "y")):
            for many in (199, 200):
                hall = hall_of({**chain(many, last), "y": "set n 1", "z.a": ""})
                hall.run(ahead)
                with self.subTest(last=last, many=many):
                    if many == 199:
                        hall.run("load naa")
                    else:
                        self.refuse(TooDeep, {"name": name}, hall.run, "load naa")
                    self.assertEqual("naa whole" in hall.told(), many == 199)

    def test_a_body_that_cant_be_read_is_told_ahead_of_too_many(self):
        hall = hall_of(chain(201, "set N 1"))
        self.refuse(NoBody, {"row": 0}, hall.run, "load naa")
        self.assertEqual(hall.forms.made, 200)


if __name__ == "__main__":
    unittest.main()
