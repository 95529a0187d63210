"""Point 17: halls: values, deeds that load nothing, run, worth, told and names; and what each of them refuses."""

import unittest

from loadhall.errors import (
    Failed, Lacking, Lost, NoBody, NoFinder, NoHand, NoLine, NoName, NoStore, NotFound, Stuck, TooDeep,
)
from loadhall.finders import Along, Barred, Built, Other
from loadhall.forms import Forms
from loadhall.halls import Hall
from loadhall.images import image
from loadhall.plans import ties
from loadhall.quiet import quiet
from loadhall.stores import Lists, Store
from things import NO_NAMES, NO_NUMBERS, NO_PARTS, NO_TEXTS, HallTest, hall_of, lay, rows

NO_PATHS = [None, True, 0, "", "a", "ab", [], ["a"], ("a", "a"), ("a", "b", "a"), ("A",), ("a", None), ("a.b",), ("",),
            (("a",),), ("a", True)]


class Values(HallTest):
    def test_at_first(self):
        hall = Hall()
        self.assertEqual((hall.clock, hall.path, hall.log), (0, (), ()))
        self.assertIs(type(hall.lists), Lists)
        self.assertIs(type(hall.forms), Forms)
        self.assertEqual(hall.forms.check, "stamp")
        self.assertEqual([type(finder) for finder in hall.finders], [Along])
        self.assertIs(type(hall.finders), tuple)
        self.assertLessEqual({"clock", "lists", "forms", "finders", "path", "log"}, set(vars(hall)))
        self.assertEqual((hall.told(), hall.hands()), ([], []))

    def test_path_and_check(self):
        hall = Hall(path=("b", "a"), check="sum")
        self.assertEqual((hall.path, hall.forms.check), (("b", "a"), "sum"))
        for part in "ab":
            self.assertEqual(len(hall.store(part)), 0)

    def test_no_path(self):
        for path in NO_PATHS:
            with self.subTest(repr(path)):
                self.refuse(NoStore, {}, Hall, path=path)

    def test_no_check(self):
        for check in (None, True, "", "Sum", ["sum"], ("stamp",), 1):
            self.refuse(NoLine, {}, Hall, check=check)
            self.refuse(NoStore, {}, Hall, path=("a", "a"), check=check)

    def test_by_names_alone(self):
        with self.assertRaises(TypeError):
            Hall(("a",))

    def test_two_halls_share_nothing(self):
        one, two = Hall(path=("s",)), Hall(path=("s",))
        one.put("s", "a", "note 1")
        one.put_finder(Barred(()))
        one.run("load a")
        self.assertEqual((two.told(), two.log, len(two.store("s")), len(two.finders)), ([], (), 0, 1))


class Clock(HallTest):
    def test_tick(self):
        hall = Hall()
        self.assertEqual([hall.tick(), hall.tick(5), hall.tick(by=2), hall.clock], [1, 6, 8, 8])
        self.assertEqual(hall.tick(999999999), 1000000007)

    def test_no_time(self):
        hall = Hall()
        for by in NO_NUMBERS + [0, -1, -5]:
            with self.subTest(repr(by)):
                self.refuse_and_keep(hall, NoLine, hall.tick, by)
        self.assertEqual(hall.clock, 0)


class Stores(HallTest):
    def test_made_where_there_is_none(self):
        hall = Hall()
        store = hall.store("s")
        self.assertIs(type(store), Store)
        self.assertEqual((store.name, len(store)), ("s", 0))
        self.assertIs(hall.store("s"), store)
        self.assertIsNot(hall.store("t"), store)

    def test_put_at_the_halls_clock(self):
        hall = Hall()
        self.assertIsNone(hall.put("s", "a", "note 1"))
        hall.tick(3)
        hall.put(part="s", name="b", text="note", pack=True)
        self.assertEqual(hall.store("s").entry("a"), ("note 1", False, 0))
        self.assertEqual(hall.store("s").entry("b"), ("note", True, 3))
        self.assertEqual(hall.store("s").changed, 3)

    def test_take_at_the_halls_clock(self):
        hall = Hall()
        hall.put("s", "a", "note 1")
        hall.tick(2)
        self.assertEqual(hall.take("s", "a"), "note 1")
        self.assertEqual((len(hall.store("s")), hall.store("s").changed), (0, 2))

    def test_no_store(self):
        hall = Hall()
        for part in NO_PARTS:
            with self.subTest(repr(part)):
                self.refuse_and_keep(hall, NoStore, hall.store, part)
                self.refuse_and_keep(hall, NoStore, hall.put, part, "a", "")
                self.refuse_and_keep(hall, NoStore, hall.put, part, "", None)
                self.refuse_and_keep(hall, NoStore, hall.take, part, "")

    def test_what_the_store_refuses(self):
        hall = hall_of({"a": ""})
        for part in ("s", "t"):
            for name in NO_NAMES:
                self.refuse_and_keep(hall, NoName, hall.put, part, name, "")
                self.refuse_and_keep(hall, NoName, hall.put, part, name, None)
                self.refuse_and_keep(hall, NoName, hall.take, part, name)
            for text in (None, True, 1, (), []):
                self.refuse_and_keep(hall, NoBody, hall.put, part, "a", text)
            self.refuse_and_keep(hall, NotFound, hall.take, part, "b")

    def test_a_refused_put_makes_no_store(self):
        hall = Hall()
        self.refuse_and_keep(hall, NoName, hall.put, "s", "A", "")
        self.refuse_and_keep(hall, NotFound, hall.take, "s", "a")

    def test_what_is_done_to_a_store_is_done_in_the_hall(self):
        hall = Hall(path=("s",))
        hall.store("s").put("a", "note 1", at=7)
        self.check_rows(hall, "load a", ["a 1"])


class Finders(HallTest):
    def words(self, hall):
        return " ".join(finder.word for finder in hall.finders)

    def test_put_ahead(self):
        hall = Hall()
        self.assertIsNone(hall.put_finder(Barred(())))
        self.assertEqual(self.words(hall), "barred along")
        hall.put_finder(Built(()), at=2)
        self.assertEqual(self.words(hall), "barred along built")
        hall.put_finder(finder=Other("a", "b"), at=1)
        self.assertEqual(self.words(hall), "barred other along built")

    def test_take(self):
        hall = Hall()
        finders = [Barred(()), Built(()), Other("a", "b")]
        for finder in finders:
            hall.put_finder(finder)
        self.assertIs(hall.take_finder(1), finders[1])
        self.assertIs(hall.take_finder(), finders[2])
        self.assertIs(hall.take_finder(at=0), finders[0])
        self.assertEqual(self.words(hall), "along")
        hall.take_finder()
        self.assertEqual(hall.finders, ())

    def test_what_was_told_stays(self):
        hall = Hall()
        told = hall.finders
        hall.put_finder(Barred(()))
        self.assertEqual([finder.word for finder in told], ["along"])

    def test_no_finder(self):
        hall = Hall()
        for finder in NO_TEXTS + ["along"]:
            with self.subTest(repr(finder)):
                self.refuse_and_keep(hall, NoFinder, hall.put_finder, finder)
                self.refuse_and_keep(hall, NoFinder, hall.put_finder, finder, at=9)

    def test_no_number(self):
        hall = Hall()
        for at in NO_NUMBERS + [-1, 2, 3]:
            with self.subTest(repr(at)):
                self.refuse_and_keep(hall, NoFinder, hall.put_finder, Along(), at=at)
                self.refuse_and_keep(hall, NoFinder, hall.take_finder, at)
        self.refuse_and_keep(hall, NoFinder, hall.take_finder, 1)
        hall.take_finder()
        self.refuse_and_keep(hall, NoFinder, hall.take_finder)
        self.refuse_and_keep(hall, NoFinder, hall.put_finder, Along(), at=1)


class Paths(HallTest):
    def test_another_path(self):
        hall = hall_of({"a": "note 1"})
        lay(hall, {"a": "note 2"}, part="t")
        self.assertIsNone(hall.set_path(("t", "u")))
        self.assertEqual(hall.path, ("t", "u"))
        self.check_rows(hall, "load a", ["a 2"])
        hall.set_path(path=())
        self.refuse_row(hall, "load b", NotFound, name="b")

    def test_its_stores_are_made(self):
        hall = hall_of({"a": ""})
        hall.set_path(("v", "s"))
        told = image(hall)
        self.assertEqual(len(hall.store("v")), 0)
        self.assertEqual(image(hall), told)
        self.assertEqual((ties(hall), quiet(hall)), ([], ["a"]))

    def test_no_path(self):
        hall = hall_of({"a": ""})
        for path in NO_PATHS:
            with self.subTest(repr(path)):
                self.refuse_and_keep(hall, NoStore, hall.set_path, path)


class Run(HallTest):
    def test_the_names_of_the_hand(self):
        hall = hall_of({"a": "set n 1"})
        self.assertEqual(hall.run("set q 1\nset p 2\nload a"), ["a", "p", "q"])
        self.assertEqual(hall.run("del p"), ["a", "q"])
        self.assertEqual(hall.run("note q"), ["a", "q"])
        self.assertEqual(hall.run(""), ["a", "q"])
        self.assertEqual(hall.run(text="set z 1", hand="x"), ["z"])
        self.assertEqual(hall.names("x", hand=True), ["z = 1"])

    def test_many_rows(self):
        hall = Hall()
        self.assertEqual(hall.run("\n".join(["set p 1"] * 40)), ["p"])
        self.refuse_and_keep(hall, NoBody, hall.run, "\n".join(["set p 1"] * 41))
        self.refuse(NoBody, {"row": None, "trail": ()}, hall.run, "\n".join(["set"] * 41))

    def test_no_body(self):
        hall = Hall()
        for text in (None, True, 3, (), [], ["note 1"]):
            self.refuse(NoBody, {"row": None}, hall.run, text)
        for text, row in (("note", 0), ("note 1\n", 1), ("\n", 0), (" ", 0), ("note 1\nnote  1", 1)):
            self.refuse(NoBody, {"row": row, "trail": ()}, hall.run, text)
            self.refuse_and_keep(hall, NoBody, hall.run, text)

    def test_a_hand_that_wasnt_begun_is_none(self):
        hall = Hall()
        self.refuse(NoBody, {}, hall.run, "note", hand="x")
        self.refuse(NoHand, {}, hall.names, "x", hand=True)
        hall.run("", hand="x")
        self.assertEqual(hall.names("x", hand=True), [])

    def test_a_hand_stays_where_a_row_is_refused(self):
        hall = Hall()
        self.refuse(Failed, {}, hall.run, "set p 1\nfail why", hand="x")
        self.assertEqual(hall.names("x", hand=True), ["p = 1"])
        self.assertEqual(hall.step("x"), "ended")

    def test_no_hand(self):
        hall = Hall()
        for hand in NO_PARTS:
            with self.subTest(repr(hand)):
                self.refuse_and_keep(hall, NoHand, hall.run, "", hand=hand)
                self.refuse_and_keep(hall, NoHand, hall.run, None, hand=hand)
        hall.begin("x", "set p 1")
        self.refuse_and_keep(hall, NoHand, hall.run, "", hand="x")

    def test_a_seventh_hand(self):
        hall = Hall()
        for hand in "abcdef":
            hall.run("", hand=hand)
        self.refuse_and_keep(hall, NoHand, hall.run, "")
        self.refuse_and_keep(hall, NoHand, hall.run, None)
        hall.run("set p 1", hand="f")

    def test_the_same_as_steps(self):
        bodies = {"a": "note 1; load b; note 2", "b": "note 3; load a; note 4"}
        one, two = hall_of(bodies), hall_of(bodies)
        one.run("load a\nset p 1\nnote p")
        two.begin("main", "load a\nset p 1\nnote p")
        while two.hands():
            two.step("main")
        self.assertEqual((one.log, one.told(), one.names("a")), (two.log, two.told(), two.names("a")))


class Worth(HallTest):
    def test_worths(self):
        hall = hall_of({"a": "set n 1; when k n+1; load b", "b": ""})
        hall.run("load a")
        self.assertEqual([hall.worth("a", "n"), hall.worth(name="a", part="k"), hall.worth("a", "b")], [1, 2, "<b>"])
        self.assertIs(type(hall.worth("a", "n")), int)

    def test_a_waiting_one_is_waked(self):
        hall = hall_of({"a": "set n 1; note n"})
        hall.run("later a as x")
        self.assertEqual(hall.worth("a", "n"), 1)
        self.assertEqual((hall.log, hall.told()), (("begin a", "note a 1", "end a"), ["a whole"]))

    def test_what_the_table_hasnt(self):
        hall = hall_of({"a": ""})
        for name in ["a", "b", "a.b"] + NO_NAMES:
            with self.subTest(repr(name)):
                self.refuse(NotFound, {"name": name, "trail": ()}, hall.worth, name, "n")

    def test_lacking(self):
        hall = hall_of({"a": "when k m"}, packs="a")
        hall.run("load a")
        fields = {"module": "a", "half": False, "trail": (("", 0),)}
        self.refuse(Lacking, {**fields, "part": "n"}, hall.worth, "a", "n")
        self.refuse(Lacking, {**fields, "part": "m"}, hall.worth, "a", "k")

    def test_what_is_beneath_isnt_wanted(self):
        hall = hall_of({"a": "", "a.b": ""}, packs="a")
        hall.run("load a")
        self.refuse(Lacking, {"module": "a", "part": "b"}, hall.worth, "a", "b")

    def test_what_is_no_part(self):
        hall = hall_of({"a": "set n 1"})
        hall.run("later a as x")
        for part in NO_PARTS:
            with self.subTest(repr(part)):
                self.refuse(Lacking, {"module": "a", "part": part, "half": False}, hall.worth, "a", part)

    def test_trails(self):
        hall = hall_of({"a": "note 1; load b", "b": "fail why", "c": "drop c"})
        hall.run("later a as x\nlater c as y")
        self.refuse(Failed, {"word": "why", "trail": (("", 0), ("a", 1), ("b", 0))}, hall.worth, "a", "n")
        self.refuse(Lost, {"name": "c", "trail": (("", 0),)}, hall.worth, "c", "n")
        self.assertEqual(hall.told(), ["a waiting"])

    def test_a_waiting_one_that_cant_be_read(self):
        hall = hall_of({"a": "set N 1"})
        hall.run("later a as x")
        self.refuse(NoBody, {"row": 0, "trail": (("", 0),)}, hall.worth, "a", "n")

    def test_a_sum_that_meets_a_waiting_one(self):
        hall = hall_of({"a": "later b as o; when k o.n", "b": "set n 3"})
        hall.run("load a")
        self.assertEqual(hall.worth("a", "k"), 3)
        self.assertEqual(hall.told(), ["a whole", "b whole"])

    def test_stuck(self):
        hall = hall_of({"a": "note 1; note 2", "b": "load a"})
        hall.run("later b as x")
        hall.begin("x", "load a")
        hall.step("x")
        self.refuse(Stuck, {"hand": "x", "trail": (("", 0), ("b", 0))}, hall.worth, "b", "n")
        self.assertEqual(hall.told(), ["a half", "b waiting"])

    def test_its_hand_may_be_waited_for(self):
        hall = hall_of({"a": "load c; set n 1", "c": "load a; set m 4", "w": "load c; set n 5"})
        hall.run("later w as o", hand="z")
        hall.begin("y", "load c")
        hall.begin("x", "load a")
        self.assertEqual([hall.step("y"), hall.step("x"), hall.step("x")], ["went", "went", "waits"])
        hall.run("drop c", hand="z")
        # x waits at c, which the hand of worth does anew: so that one doesn't wait for x's a
        self.assertEqual(hall.worth("w", "n"), 5)
        self.assertEqual(hall.told(), ["a half", "c whole", "w whole"])
        self.assertEqual([hall.step("x"), hall.step("x")], ["went", "ended"])

    def test_two_hundred_bodies(self):
        hall = hall_of({"a": "drop a; load a"})
        hall.run("later a as x")
        self.refuse(TooDeep, {"name": "a", "trail": (("", 0), *[("a", 1)] * 200)}, hall.worth, "a", "n")

    def test_it_counts_as_no_hand(self):
        hall = hall_of({"a": "set n 1"})
        for hand in "abcde":
            hall.run("later a as x", hand=hand)
        hall.worth("a", "n")
        self.refuse(NoHand, {}, hall.names, "", hand=True)
        self.refuse(NoHand, {}, hall.step, "")
        hall.run("", hand="f")


class Told(HallTest):
    def test_told(self):
        hall = hall_of({"b": "", "a": "", "a.b": "", "ab": "note 1; note 2"}, packs="a")
        hall.run(rows("load b; later a.b as x"))
        hall.begin("x", "load ab")
        hall.step("x")
        self.assertEqual(hall.told(), ["a whole", "a.b waiting", "ab half", "b whole"])

    def test_names(self):
        hall = hall_of({"a": "set n 1; load b; set m -2; when k 1", "b": ""})
        hall.run("load a as x\nset y 7")
        self.assertEqual(hall.names("a"), ["b = <b>", "m = -2", "n = 1"])
        self.assertEqual(hall.names("main", hand=True), ["x = <a>", "y = 7"])
        self.assertEqual(hall.names(name="b", hand=False), [])

    def test_names_dont_wake(self):
        hall = hall_of({"a": "set n 1"})
        hall.run("later a as x")
        self.assertEqual((hall.names("a"), hall.told()), ([], ["a waiting"]))

    def test_what_isnt_there(self):
        hall = hall_of({"a": ""})
        hall.run("load a", hand="x")
        for name in ["b", "a.b", "x"] + NO_NAMES:
            with self.subTest(repr(name)):
                self.refuse(NotFound, {"name": name, "trail": ()}, hall.names, name)
        for name in ["a", "main"] + NO_PARTS:
            with self.subTest(repr(name)):
                self.refuse(NoHand, {}, hall.names, name, hand=True)

    def test_lists_are_the_askers_own(self):
        hall = hall_of({"a": "set n 1"})
        hall.run("load a")
        for ask in (hall.told, hall.hands, lambda: hall.names("a"), lambda: hall.run("")):
            told = ask()
            self.assertIs(type(told), list)
            kept = list(told)
            told.append("x")
            self.assertEqual(ask(), kept)


if __name__ == "__main__":
    unittest.main()
