"""Point 24: which modules are behind the bodies that lie, and loading them again in order."""

import random
import unittest

from loadhall.anew import anew, lagging, renew
from loadhall.errors import Failed, Lacking, NoHand, NotFound, Stuck, TooDeep
from loadhall.finders import Barred, Built, Other
from loadhall.halls import Hall
from loadhall.images import image
from loadhall.quiet import quiet
from quiet_halls import quiet_hall
from things import NO_PARTS, HallTest, hall_of, lay


class AnewTest(HallTest):
    def loaded(self, bodies, names, **named):
        """A hall in which names were loaded, and whose clock then went on."""
        hall = hall_of(bodies, **named)
        hall.run("\n".join(f"load {name}" for name in names.split()))
        hall.tick()
        return hall

    def check(self, hall, told):
        """Just these modules are behind, in this order."""
        self.assertEqual(lagging(hall), sorted(told.split()))
        self.assertEqual(anew(hall), told.split())


class Behind(AnewTest):
    def test_none(self):
        self.check(Hall(), "")
        self.check(self.loaded({"a": "load b; set n 1", "b": "", "c": "note 1"}, "a"), "")

    def test_other_rows(self):
        hall = self.loaded({"a": "set n 1", "b": "set n 1"}, "a b")
        lay(hall, {"a": "set n 2"})
        self.check(hall, "a")
        lay(hall, {"b": ""})
        self.check(hall, "a b")
        lay(hall, {"a": "set n 1"})
        self.check(hall, "b")

    def test_the_same_rows_laid_anew(self):
        hall = self.loaded({"a": "set n 1"}, "a")
        lay(hall, {"a": "set n 1"})
        self.check(hall, "")
        hall.take("s", "a")
        self.check(hall, "")
        hall.tick()
        lay(hall, {"a": "set n 1"})
        self.check(hall, "")

    def test_other_places(self):
        hall = self.loaded({"a": "set n 1", "b": ""}, "a b", packs="b")
        lay(hall, {"a": "set n 1", "b": ""}, packs="a")
        self.check(hall, "a b")
        hall = hall_of({"a": ""}, packs="a", path=("s", "t"))
        lay(hall, {"a": ""}, packs="a", part="t")
        hall.run("load a")
        self.check(hall, "")
        hall.set_path(("t", "s"))
        self.check(hall, "a")
        lay(hall, {"a": ""}, part="t")
        self.check(hall, "a")

    def test_what_cant_be_read(self):
        hall = self.loaded({"a": "set n 1", "b": "load a"}, "b")
        lay(hall, {"a": "set N 1"})
        self.check(hall, "a b")
        lay(hall, {"b": "load N"})
        self.check(hall, "a b")

    def test_what_doesnt_lie_or_isnt_whole(self):
        hall = self.loaded({"a": "set n 1", "c": "set n 1", "d": "note 1; note 2"}, "a")
        hall.take("s", "a")
        hall.run("later c as x")
        lay(hall, {"c": "set n 2"})
        hall.begin("x", "load d")
        hall.step("x")
        lay(hall, {"d": "note 3"})
        self.assertEqual(hall.told(), ["a whole", "c waiting", "d half"])
        self.check(hall, "")

    def test_what_isnt_in_the_table(self):
        hall = self.loaded({"a": "set n 1"}, "a")
        hall.run("drop a")
        lay(hall, {"a": "set n 2"})
        self.check(hall, "")

    def test_spread_ones(self):
        hall = self.loaded({"a.b": "set n 1"}, "a.b")
        self.check(hall, "")
        # a body lies there now, of other places, or with rows; the same places and no rows are no change
        lay(hall, {"a": ""}, packs="a")
        self.check(hall, "")
        lay(hall, {"a": "set n 1"}, packs="a")
        self.check(hall, "a")
        hall.take("s", "a")
        self.check(hall, "")
        hall.put("s", "a", "")
        self.check(hall, "a")

    def test_rows_that_were_refused_count_as_begun(self):
        hall = self.loaded({"a": "set n 1"}, "a")
        lay(hall, {"a": "set n 2; fail why"})
        self.check(hall, "a")
        self.refuse(Failed, {}, hall.run, "again a")
        self.check(hall, "")

    def test_rows_that_were_read_and_not_begun(self):
        hall = self.loaded({"a": "set n 1"}, "a")
        lay(hall, {"a": "set n 2"})
        hall.put_finder(Barred(("a",)))
        self.refuse(NotFound, {}, hall.run, "again a")
        self.check(hall, "a")

    def test_stale_forms(self):
        hall = hall_of({"a": "set n 1"})
        hall.run("load a")
        lay(hall, {"a": "set n 2"})
        hall.run("again a")
        self.check(hall, "a")

    def test_built_ones(self):
        hall = hall_of({"a": "set n 2"})
        hall.put_finder(Built((("a", "set n 1"), ("b", "set n 1"))))
        hall.run("load a\nload b")
        self.check(hall, "a")

    def test_wants(self):
        hall = self.loaded({"a": "set n 1", "b": "load a", "c": "load b", "d": ""}, "c d")
        lay(hall, {"a": "set n 2"})
        self.check(hall, "a b c")

    def test_wants_of_the_body_as_it_lies(self):
        hall = self.loaded({"a": "set n 1", "b": "load a"}, "b")
        lay(hall, {"a": "set n 2", "b": "may a as x"})
        hall.run("drop b\nload b")
        self.check(hall, "a")
        lay(hall, {"b": "from a take n"})
        self.check(hall, "a b")

    def test_wants_by_dots_and_beneath(self):
        hall = self.loaded({"a": "", "a.b": "set n 1", "a.c": "from .b take n", "d": "from a take b", "e": "load a"},
                           "a.c d e", packs="a")
        lay(hall, {"a.b": "set n 2"})
        self.check(hall, "a.b a.c d")

    def test_wants_that_arent_in_the_table(self):
        hall = self.loaded({"a": "set n 1", "b": "load a", "c": "load b"}, "c")
        hall.run("drop b")
        lay(hall, {"a": "set n 2"})
        # b is no name of the table, so that c isn't behind over it
        self.check(hall, "a")

    def test_other_names(self):
        hall = hall_of({"a": "set n 1", "b": "load c", "d": ""})
        hall.put_finder(Other("c", "a"))
        hall.run("load b")
        hall.tick()
        lay(hall, {"a": "set n 2"})
        # the want c leads to a's module
        self.check(hall, "a b")
        hall.run("drop a")
        self.check(hall, "")
        hall.take_finder()
        hall.run("load a")
        lay(hall, {"a": "set n 3"})
        # the table has another a by now, and c's module under that name alone
        self.check(hall, "a")

    def test_a_name_that_lies_and_leads_to_another(self):
        hall = hall_of({"a": "set n 1", "c": "set n 3"})
        hall.put_finder(Other("c", "a"))
        hall.run("load c")
        self.check(hall, "")

    def test_nothing_is_changed(self):
        hall = self.loaded({"a": "set n 1", "b": "load a"}, "b")
        lay(hall, {"a": "set n 2"})
        told = image(hall)
        for ask in (lagging, anew):
            ask(hall).append("x")
            self.assertEqual(ask(hall), ["a", "b"])
        self.assertEqual(image(hall), told)


class Order(AnewTest):
    def test_each_behind_its_wants(self):
        hall = self.loaded({"c": "set n 1", "b": "load c", "a": "load b"}, "a")
        lay(hall, {"c": "set n 2"})
        self.check(hall, "c b a")

    def test_the_least_first(self):
        hall = self.loaded({"a": "load d", "b": "", "c": "", "d": "", "e": "load b"}, "a b c d e")
        lay(hall, {"b": "set n 1", "c": "set n 1", "d": "set n 1"})
        self.check(hall, "b c d a e")

    def test_over_what_isnt_in_the_table(self):
        hall = self.loaded({"a": "load b", "b": "load c", "c": "set n 1"}, "a")
        hall.run("drop b")
        lay(hall, {"c": "set n 2", "a": "load b; set n 1"})
        self.check(hall, "c a")

    def test_over_several_that_arent_in_the_table(self):
        hall = self.loaded({"a": "load b", "b": "load c; load b", "c": "load d; load b", "d": ""}, "a")
        hall.run("drop b\ndrop c")
        lay(hall, {"d": "set n 2", "a": "load b; set n 1"})
        self.check(hall, "d a")

    def test_over_what_isnt_in_the_table_and_doesnt_lie(self):
        hall = self.loaded({"a": "load b", "b": "load c", "c": ""}, "a")
        hall.run("drop b")
        hall.take("s", "b")
        lay(hall, {"c": "set n 2", "a": "load b; set n 1"})
        self.check(hall, "a c")

    def test_over_another_name(self):
        hall = hall_of({"b": "set n 1", "a": "load c"})
        hall.put_finder(Other("c", "b"))
        hall.run("load a")
        hall.tick()
        lay(hall, {"b": "set n 2"})
        self.check(hall, "b a")

    def test_over_a_name_that_stands_for_one_not_in_the_table(self):
        hall = hall_of({"b": "set n 1", "a": "load c"})
        hall.put_finder(Other("c", "b"))
        hall.run("load a\ndrop b")
        hall.take_finder()
        hall.tick()
        lay(hall, {"b": "set n 2", "a": "load c; set n 1"})
        hall.run("load b")
        lay(hall, {"b": "set n 3"})
        # c leads to the b that was dropped: so to none of these
        self.check(hall, "a b")

    def test_rings(self):
        hall = self.loaded({"b": "load c", "c": "load b", "d": "load b", "e": ""}, "d e")
        lay(hall, {"c": "load b; set n 1", "e": "set n 1"})
        self.assertEqual(lagging(hall), ["b", "c", "d", "e"])
        self.refuse(TooDeep, {"name": "b", "trail": ()}, anew, hall)
        self.refuse(TooDeep, {"name": "b"}, renew, hall)

    def test_the_least_of_all_that_are_left(self):
        hall = self.loaded({"a": "load c", "b": "", "c": "load d", "d": "load c"}, "a b")
        lay(hall, {"d": "load c; set n 1", "b": "set n 1"})
        # a stands in no ring, yet it is left with those that do
        self.refuse(TooDeep, {"name": "a"}, anew, hall)

    def test_a_pack_that_loads_what_is_beneath_it(self):
        hall = self.loaded({"a": "load a.b", "a.b": ""}, "a", packs="a")
        self.check(hall, "")
        lay(hall, {"a.b": "set n 1"})
        self.assertEqual(lagging(hall), ["a", "a.b"])
        self.refuse(TooDeep, {"name": "a"}, anew, hall)

    def test_a_name_that_wants_itself(self):
        hall = self.loaded({"b": "load b", "c": ""}, "b c")
        lay(hall, {"b": "load b; set n 1", "c": "set n 1"})
        self.refuse(TooDeep, {"name": "b"}, anew, hall)

    def test_a_ring_over_what_isnt_in_the_table(self):
        hall = self.loaded({"a": "load b", "b": "load a"}, "a")
        hall.run("drop b")
        lay(hall, {"a": "load b; set n 1"})
        self.refuse(TooDeep, {"name": "a"}, anew, hall)


class Renew(AnewTest):
    def test_in_order(self):
        hall = self.loaded({"c": "set n 1", "b": "from c take n", "a": "from b take n"}, "a")
        lay(hall, {"c": "set n 2"})
        self.assertEqual(renew(hall), ["c", "b", "a"])
        self.assertEqual((hall.worth("a", "n"), lagging(hall)), (2, []))
        self.assertEqual(hall.log[-6:], ("begin c", "end c", "begin b", "end b", "begin a", "end a"))

    def test_nothing_behind(self):
        hall = self.loaded({"a": ""}, "a")
        logged = hall.log
        self.assertEqual(renew(hall, hand="x"), [])
        self.assertEqual((hall.log, hall.names("x", hand=True), hall.hands()), (logged, [], []))

    def test_of_another_hand(self):
        hall = self.loaded({"a": "fail why"}, "")
        lay(hall, {"a": "set n 1"})
        hall.run("load a")
        hall.tick()
        lay(hall, {"a": "set n 1; fail why"})
        self.refuse(Failed, {"word": "why", "trail": (("x", 0), ("a", 1))}, renew, hall, hand="x")
        self.assertEqual(lagging(hall), [])

    def test_refused_as_run_is(self):
        hall = self.loaded({"a": "set n 1", "b": "load a"}, "b")
        lay(hall, {"a": "set m 1", "b": "load a; note a.m; note a.k"})
        for hand in NO_PARTS:
            self.refuse_and_keep(hall, NoHand, renew, hall, hand=hand)
        self.refuse(Lacking, {"part": "k", "trail": (("main", 1), ("b", 2))}, renew, hall)
        self.assertEqual(hall.names("a"), ["m = 1", "n = 1"])
        hall.begin("x", "note 1")
        self.refuse_and_keep(hall, NoHand, renew, hall, hand="x")
        with self.assertRaises(TypeError):
            renew(hall, "x")

    def test_refused_as_anew_is_first(self):
        hall = self.loaded({"a": "load a"}, "a")
        lay(hall, {"a": "load a; set n 1"})
        self.refuse_and_keep(hall, TooDeep, renew, hall, hand=None)
        self.refuse_and_keep(hall, TooDeep, renew, hall, hand="")

    def test_stuck(self):
        hall = self.loaded({"a": "set n 1", "b": "note 1; note 2"}, "a")
        hall.begin("x", "load b")
        hall.step("x")
        lay(hall, {"a": "load b"})
        self.refuse(Stuck, {"hand": "x", "trail": (("main", 0), ("a", 0))}, renew, hall)

    def test_forty_names(self):
        names = ["n" + chr(97 + at // 26) + chr(97 + at % 26) for at in range(40)]
        hall = self.loaded({name: f"load {following}" for name, following in zip(names, names[1:] + ["z"])}
                           | {"z": ""}, "")
        lay(hall, {names[-1]: ""})
        hall.run(f"load {names[0]}")
        hall.tick()
        lay(hall, {names[-1]: "set n 1"})
        self.assertEqual(renew(hall), names[::-1])

    def test_as_in_a_bare_hall(self):
        many = 0
        for number in range(1500):
            chance = random.Random(number)
            hall = quiet_hall(chance)
            names = hall.store("s").names()
            text = "\n".join(f"load {chance.choice(names)}" for _ in range(chance.randrange(1, 5)))
            if quiet(hall) != names:
                continue
            hall.run(text)
            hall.tick()
            for name in names:
                if chance.random() < 0.4:
                    body, pack, _ = hall.store("s").entry(name)
                    # it sets no fewer names than the body that was done ahead of it
                    more = f"set {chance.choice('xyz')} {chance.randrange(9)}"
                    hall.put("s", name, f"{more}\n{body.replace('1', '2')}" if body else more, pack=pack)
            if quiet(hall) != names:
                continue
            behind = lagging(hall)
            self.assertEqual(sorted(renew(hall)), behind)
            self.assertEqual(lagging(hall), [])
            bare = Hall(path=hall.path)
            bare.stores = hall.stores
            bare.run(text)
            for name in [one.split(" ")[0] for one in hall.told()]:
                bare.run(f"load {name}")
            for name in [one.split(" ")[0] for one in hall.told()]:
                self.assertEqual(hall.names(name), bare.names(name), (number, name))
            many += bool(behind)
        self.assertGreater(many, 100)


if __name__ == "__main__":
    unittest.main()
