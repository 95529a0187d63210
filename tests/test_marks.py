"""Point 21: marks: all that a hall is is kept, and brought back."""

import unittest

from loadhall.errors import Failed, NoBody, NoHand, NoLine, NotFound
from loadhall.finders import Barred, Other
from loadhall.halls import Hall
from loadhall.images import image
from loadhall.modules import Module
from things import NO_NUMBERS, HallTest, hall_of, lay, rows


class Numbers(HallTest):
    def test_from_nought_on(self):
        hall = Hall()
        self.assertEqual([hall.mark(), hall.mark(), hall.mark()], [0, 1, 2])

    def test_the_mark_itself_stays(self):
        hall = Hall()
        for _ in range(3):
            hall.mark()
        self.assertIsNone(hall.back(1))
        hall.back(number=1)
        self.assertEqual(hall.mark(), 2)
        hall.back(0)
        self.refuse(NoLine, {}, hall.back, 1)
        self.assertEqual(hall.mark(), 1)

    def test_no_mark(self):
        hall = hall_of({"a": ""})
        self.refuse_and_keep(hall, NoLine, hall.back, 0)
        hall.mark()
        hall.run("load a")
        for number in NO_NUMBERS + [-1, 1, 2]:
            with self.subTest(repr(number)):
                self.refuse_and_keep(hall, NoLine, hall.back, number)
        hall.back(0)
        self.assertEqual(hall.told(), [])


class AllThatItIs(HallTest):
    def test_everything_at_once(self):
        hall = hall_of({"a": "set n 1; later b as y", "b": "set m 2"})
        hall.run("load a\nset p 3")
        hall.begin("x", "note 1\nnote 2")
        hall.step("x")
        told = (hall.clock, hall.path, hall.log, hall.finders, hall.told(), hall.names("a"), hall.hands(),
                hall.forms.made, hall.forms.kept, hall.names("main", hand=True), hall.store("s").entry("a"))
        number = hall.mark()
        hall.tick(5)
        hall.set_path(("t", "s"))
        hall.put_finder(Barred(("b",)), at=1)
        hall.take_finder()
        hall.take("s", "a")
        lay(hall, {"c": "note 3"}, part="t")
        hall.run("set p 4\ndrop a")
        hall.step("x")
        hall.run("", hand="y")
        hall.back(number)
        self.assertEqual((hall.clock, hall.path, hall.log, hall.finders, hall.told(), hall.names("a"), hall.hands(),
                          hall.forms.made, hall.forms.kept, hall.names("main", hand=True),
                          hall.store("s").entry("a")), told)
        self.refuse(NoHand, {}, hall.step, "y")

    def test_an_earlier_mark(self):
        hall = hall_of({"a": "", "b": "", "c": ""})
        told = []
        for name in "abc":
            told.append((hall.mark(), image(hall)))
            hall.run(f"load {name}")
        for number, text in reversed(told):
            hall.back(number)
            self.assertEqual(image(hall), text)
        self.check_rows(hall, "load a; note a", ["main <a>"])

    def test_again_and_again(self):
        hall = hall_of({"a": "set n 1"})
        number = hall.mark()
        for _ in range(3):
            hall.run("load a\nset p a.n")
            self.assertEqual((hall.log, hall.run("")), (("begin a", "end a"), ["a", "p"]))
            hall.back(number)
            self.assertEqual((hall.log, hall.told()), ((), []))

    def test_modules_that_were_one_are_one_again(self):
        hall = hall_of({"a": "set n 1", "b": "load a as x"})
        hall.put_finder(Other("c", "a"))
        hall.run("load a as y\nload b\nload c")
        number = hall.mark()
        hall.run("drop a\ndrop b\ndrop c\ndel y\ndel b\ndel c")
        hall.back(number)
        hall.tick()
        lay(hall, {"a": "set n 2"})
        self.check_rows(hall, "again a; note y.n; note b.x.n; note c.n", ["main 2"] * 3)

    def test_modules_that_have_one_another(self):
        hall = hall_of({"a": "load b; load a", "b": "load a; load b"})
        hall.run("load a")
        number = hall.mark()
        hall.run("drop a\ndrop b\ndel a")
        hall.back(number)
        self.check_rows(hall, "note a.b.a.b; note a.a.b", ["main <b>", "main <b>"])

    def test_sums_and_lists_that_are_shown(self):
        hall = hall_of({"a": "set n 1; when k n; show k"})
        hall.run("load a")
        number = hall.mark()
        hall.tick()
        lay(hall, {"a": "when k 5; show n"})
        hall.run("again a")
        hall.back(number)
        self.assertEqual(hall.run("from a take all"), ["a", "k"])
        self.assertEqual(hall.worth("a", "k"), 1)


class Objects(HallTest):
    def test_they_stay_the_halls(self):
        hall = hall_of({"a": "note 1"})
        store, lists, forms = hall.store("s"), hall.lists, hall.forms
        hall.run("load a")
        number = hall.mark()
        store.put("b", "note 2", at=4)
        store.take("a", at=4)
        lists.listed(store)
        forms.drop(store, "a")
        hall.back(number)
        self.assertIs(hall.store("s"), store)
        self.assertIs(hall.lists, lists)
        self.assertIs(hall.forms, forms)
        self.assertEqual((store.names(), store.changed, len(store)), (["a"], 0, 1))
        self.assertEqual((forms.made, forms.kept, forms.form(store, "a")), (1, 1, [("note", "1")]))

    def test_stores_made_behind_it_are_its_no_longer(self):
        hall = Hall()
        number = hall.mark()
        hall.put("t", "a", "note 1")
        store = hall.store("t")
        hall.back(number)
        self.assertEqual(store.names(), ["a"])
        store.put("b", "note 2")
        self.assertIsNot(hall.store("t"), store)
        self.assertEqual(hall.store("t").names(), [])

    def test_a_store_made_between_two_marks(self):
        hall = Hall()
        hall.mark()
        store = hall.store("t")
        hall.mark()
        hall.put("t", "a", "note 1")
        hall.back(1)
        self.assertIs(hall.store("t"), store)
        self.assertEqual(len(store), 0)
        hall.back(0)
        self.assertIsNot(hall.store("t"), store)

    def test_stale_lists_and_forms_are_stale_again(self):
        hall = hall_of({"a": "note 1"})
        hall.run("load a\ndrop a")
        lay(hall, {"a": "note 2", "b": "note 3"})
        number = hall.mark()
        hall.lists.forget()
        hall.tick()
        lay(hall, {"a": "note 4"})
        self.check_rows(hall, "load a; load b", ["a 4", "b 3"])
        hall.back(number)
        self.assertEqual(hall.forms.stale(hall.store("s")), ["a"])
        self.check_rows(hall, "load a", ["a 1"])
        self.refuse_row(hall, "load b", NotFound, name="b")

    def test_what_is_told_of_the_hall_is_no_module(self):
        hall = hall_of({"a": ""})
        hall.run("load a")
        for told in (hall.told(), hall.names("main", hand=True), [hall.log], [hall.run("")]):
            self.assertFalse([one for one in told if isinstance(one, Module)])


class Hands(HallTest):
    BODIES = {"a": "set n 1; load b; note b.n", "b": "set n 2; load a; note a.n; set n 3"}

    def test_in_the_midst_of_bodies(self):
        hall = hall_of(self.BODIES)
        hall.begin("x", "load a\nnote a.b")
        hall.begin("y", "load b\nload a")
        numbers, told = [], []
        for at in range(30):
            numbers.append(hall.mark())
            hand = "xy"[at % 2 if at < 6 else at // 3 % 2]
            told.append((hand, hall.step(hand), hall.log, hall.told(), hall.hands()))
        for number in reversed(numbers):
            hall.back(number)
            for hand, word, log, table, hands in told[number:]:
                self.assertEqual((hall.step(hand), hall.log, hall.told(), hall.hands()), (word, log, table, hands))

    def test_a_hand_that_waits(self):
        hall = hall_of({"a": "set n 1; fail why"})
        hall.begin("x", "load a")
        hall.begin("y", "load a")
        hall.step("x")
        self.assertEqual(hall.step("y"), "waits")
        number = hall.mark()
        for _ in range(2):
            self.assertEqual([hall.step("y"), hall.step("x")], ["waits", "went"])
            self.refuse(Failed, {"trail": (("x", 0), ("a", 1))}, hall.step, "x")
            self.assertEqual(hall.step("y"), "went")
            hall.back(number)
            self.assertEqual(hall.hands(), ["x", "y"])

    def test_rows_of_each_kind(self):
        for row in ("load a.b", "load a.b as z", "may a.b as z", "later a.b as z", "from a take b", "from a take all",
                    "from a take b as z", "load c", "later c as z", "again d", "note o.n", "load d", "load e.a"):
            hall = hall_of({"a": "show b", "a.b": "set n 1; set m 2", "d": "set n 1; note n", "e.a": "note 1; note 2"},
                           packs="a")
            hall.put_finder(Other("c", "a.b"))
            hall.run("load d\nlater d as o\nload a", hand="z")
            hall.run("drop d\nlater d as o" if row.startswith("note") else "", hand="x")
            hall.begin("x", row + "\nset p 7")
            logs = []
            while hall.hands():
                hall.mark()
                hall.step("x")
                logs.append((hall.log, hall.told(), hall.names("x", hand=True)))
            for number in reversed(range(len(logs))):
                hall.back(number)
                for told in logs[number:]:
                    hall.step("x")
                    with self.subTest(row=row, number=number):
                        self.assertEqual((hall.log, hall.told(), hall.names("x", hand=True)), told)

    def test_bodies_that_were_counted(self):
        hall = hall_of({"a": "drop a; load a"})
        hall.begin("x", "load a")
        for _ in range(399):
            hall.step("x")
        number = hall.mark()
        for _ in range(2):
            self.assertEqual(hall.step("x"), "went")
            with self.assertRaises(Exception) as caught:
                hall.step("x")
            self.assertEqual(caught.exception.name, "a")
            hall.back(number)

    def test_hands_begun_behind_it_are_none(self):
        hall = Hall()
        number = hall.mark()
        for hand in "abcdef":
            hall.run("", hand=hand)
        self.refuse(NoHand, {}, hall.run, "", hand="g")
        hall.back(number)
        for hand in "ghijkl":
            hall.run(rows("set p 1"), hand=hand)
        self.refuse(NoHand, {}, hall.run, "")
        self.refuse(NoBody, {}, hall.run, "x", hand="g")


if __name__ == "__main__":
    unittest.main()
