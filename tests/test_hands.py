"""Point 18: hands, begun and going on step by step, and who waits for whom."""

import unittest

from loadhall.errors import Failed, Lacking, Lost, NoBody, NoHand, TooDeep
from loadhall.finders import Other
from loadhall.halls import Hall
from things import NO_PARTS, HallTest, hall_of, lay


def steps(hall, hand, many):
    """Tell what so many steps of a hand tell."""
    return [hall.step(hand) for _ in range(many)]


def all_steps(hall, hands):
    """Let hands do a step each, in turn, till none of them has rows left; tell what each of them told."""
    told = {hand: [] for hand in hands}
    while hall.hands():
        for hand in hands:
            if hand in hall.hands():
                told[hand].append(hall.step(hand))
    return told


class Begin(HallTest):
    def test_rows_left(self):
        hall = Hall()
        self.assertIsNone(hall.begin("x", "set p 1\nset q 2"))
        hall.begin(hand="b", text="note 1")
        hall.begin("c", "")
        self.assertEqual(hall.hands(), ["b", "x"])
        self.assertEqual(steps(hall, "x", 3), ["went", "ended", "ended"])
        self.assertEqual(hall.hands(), ["b"])
        self.assertEqual(hall.step("c"), "ended")

    def test_nothing_is_done_by_it(self):
        hall = hall_of({"a": ""})
        hall.begin("x", "load a")
        self.assertEqual((hall.log, hall.names("x", hand=True)), ((), []))

    def test_names_stay(self):
        hall = Hall()
        hall.run("set p 1", hand="x")
        hall.begin("x", "note p")
        self.assertEqual(steps(hall, "x", 1), ["ended"])
        self.assertEqual(hall.log, ("note x 1",))

    def test_forty_rows(self):
        hall = Hall()
        hall.begin("x", "\n".join(["note 1"] * 40))
        self.assertEqual(steps(hall, "x", 40), ["went"] * 39 + ["ended"])
        self.refuse_and_keep(hall, NoBody, hall.begin, "x", "\n".join(["note 1"] * 41))

    def test_no_hand(self):
        hall = Hall()
        for hand in NO_PARTS:
            with self.subTest(repr(hand)):
                self.refuse_and_keep(hall, NoHand, hall.begin, hand, "")
                self.refuse_and_keep(hall, NoHand, hall.begin, hand, None)
                self.refuse_and_keep(hall, NoHand, hall.step, hand)

    def test_rows_left_already(self):
        hall = Hall()
        hall.begin("x", "note 1\nnote 2")
        for _ in range(2):
            self.refuse_and_keep(hall, NoHand, hall.begin, "x", "")
            self.refuse_and_keep(hall, NoHand, hall.begin, "x", None)
            hall.step("x")
        hall.begin("x", "note 3")

    def test_a_seventh(self):
        hall = Hall()
        for hand in "abcdef":
            hall.begin(hand, "note 1")
            hall.step(hand)
        self.refuse_and_keep(hall, NoHand, hall.begin, "g", "")
        self.refuse_and_keep(hall, NoHand, hall.begin, "g", None)
        hall.begin("a", "note 2")

    def test_no_body(self):
        hall = Hall()
        for text, row in ((None, None), (True, None), (["note 1"], None), ("note", 0), ("note 1\n", 1)):
            self.refuse(NoBody, {"row": row, "trail": ()}, hall.begin, "x", text)
        self.refuse(NoHand, {}, hall.step, "x")
        for hand in "abcdef":
            self.refuse(NoBody, {}, hall.begin, hand, "note")
        for hand in "ghijkl":
            hall.begin(hand, "")

    def test_never_begun(self):
        hall = Hall()
        self.refuse_and_keep(hall, NoHand, hall.step, "main")
        hall.run("")
        self.assertEqual(hall.step("main"), "ended")


class Steps(HallTest):
    def test_row_by_row(self):
        hall = hall_of({"a": "note 2; load b; note 4", "b": "note 3"})
        hall.begin("x", "note 1\nload a\nnote 5")
        logs = []
        for told in ("went", "went", "went", "went", "went", "went", "ended"):
            self.assertEqual(hall.step("x"), told)
            logs.append(hall.log[len(logs) and sum(map(len, logs)):])
        self.assertEqual(logs, [("note x 1",), ("begin a",), ("note a 2",), ("begin b",), ("note b 3", "end b"),
                                ("note a 4", "end a"), ("note x 5",)])

    def test_bodies_without_rows(self):
        hall = hall_of({"a": "", "a.b": "", "a.b.c": "note 1"}, packs="a a.b")
        hall.begin("x", "load a.b as y\nload a.b.c")
        self.assertEqual(hall.step("x"), "went")
        self.assertEqual(hall.log, ("begin a", "end a", "begin a.b", "end a.b"))
        self.assertEqual(hall.names("x", hand=True), ["y = <a.b>"])
        self.assertEqual(steps(hall, "x", 2), ["went", "ended"])

    def test_a_row_goes_on_behind_its_bodies(self):
        hall = hall_of({"a": "set n 1", "a.b": "set n 2"}, packs="a")
        hall.begin("x", "from a take b\nnote b.n")
        self.assertEqual(hall.step("x"), "went")
        self.assertEqual(hall.log, ("begin a",))
        self.assertEqual(hall.step("x"), "went")
        self.assertEqual(hall.log, ("begin a", "end a", "begin a.b"))
        self.assertEqual(hall.step("x"), "went")
        self.assertEqual(hall.names("x", hand=True), ["b = <a.b>"])
        self.assertEqual(hall.step("x"), "ended")

    def test_the_last_row_ends_all_around_it(self):
        hall = hall_of({"a": "load b", "b": "load c", "c": "note 1"})
        hall.begin("x", "load a")
        self.assertEqual(steps(hall, "x", 4), ["went", "went", "went", "ended"])
        self.assertEqual(hall.log[3:], ("note c 1", "end c", "end b", "end a"))

    def test_a_row_that_is_done_is_left_till_it_is_over(self):
        hall = hall_of({"a": "note 1"})
        hall.begin("x", "load a")
        hall.step("x")
        self.assertEqual(hall.hands(), ["x"])
        hall.step("x")
        self.assertEqual(hall.hands(), [])

    def test_waking_within_a_row(self):
        hall = hall_of({"a": "note 1; set n 2"})
        hall.begin("x", "later a as y\nset p y.n+y.n\nnote p")
        self.assertEqual(steps(hall, "x", 5), ["went", "went", "went", "went", "ended"])
        self.assertEqual(hall.log, ("begin a", "note a 1", "end a", "note x 4"))

    def test_a_row_that_is_refused(self):
        hall = hall_of({"a": "note 1; fail why; note 2"})
        hall.begin("x", "set p 1\nload a\nset p 2")
        self.assertEqual(steps(hall, "x", 3), ["went", "went", "went"])
        self.refuse(Failed, {"word": "why", "trail": (("x", 1), ("a", 1))}, hall.step, "x")
        self.assertEqual((hall.hands(), hall.told()), ([], []))
        self.assertEqual(hall.step("x"), "ended")
        self.assertEqual(hall.names("x", hand=True), ["p = 1"])
        hall.begin("x", "note p")

    def test_a_may_row_takes_it_within_the_step(self):
        hall = hall_of({"a": "note 1; fail why", "b": "may a as y"})
        hall.begin("x", "may a as y\nload b\nnote 3")
        self.assertEqual(steps(hall, "x", 3), ["went", "went", "went"])
        self.assertEqual(hall.names("x", hand=True), ["y = 0"])
        # the refused body's may row was the last one of b's: so the step goes on outwards
        self.assertEqual(steps(hall, "x", 4), ["went", "went", "went", "went"])
        self.assertEqual(hall.log[-2:], ("refuse a", "end b"))
        self.assertEqual(hall.step("x"), "ended")

    def test_two_hundred_bodies_step_by_step(self):
        hall = hall_of({"a": "drop a; load a"})
        hall.begin("x", "note 1\nload a")
        self.assertEqual(set(steps(hall, "x", 401)), {"went"})
        self.refuse(TooDeep, {"name": "a"}, hall.step, "x")

    def test_bodies_are_counted_over_the_steps_of_a_row(self):
        hall = hall_of({"a": "load b; drop b; load b; drop b", "b": "set n 1"})
        hall.begin("x", "\n".join(["load a\ndrop a"] * 20))
        self.assertEqual(all_steps(hall, ["x"])["x"][-1], "ended")


class Waits(HallTest):
    def test_for_a_body_of_another_hand(self):
        hall = hall_of({"a": "set n 1; set m 2"})
        hall.begin("x", "load a")
        hall.begin("y", "load a\nnote a.m")
        self.assertEqual([hall.step("x"), hall.step("y"), hall.step("y")], ["went", "waits", "waits"])
        self.assertEqual(hall.hands(), ["x", "y"])
        self.assertEqual([hall.step("x"), hall.step("y"), hall.step("x")], ["went", "waits", "ended"])
        self.assertEqual([hall.step("y"), hall.step("y")], ["went", "ended"])
        self.assertEqual(hall.log, ("begin a", "end a", "note y 2"))

    def test_every_row_that_wants(self):
        for row in ("load a", "load a as z", "may a as z", "later a as z", "from a take n", "from a take all",
                    "again a",
                    "load a.b", "later a.b as z"):
            hall = hall_of({"a": "set n 1", "a.b": ""}, packs="a")
            hall.begin("x", "load a")
            hall.begin("y", row)
            with self.subTest(row):
                self.assertEqual([hall.step("x"), hall.step("y"), hall.step("x"), hall.step("y")],
                                 ["went", "waits", "ended", "ended"])

    def test_looks_dont_wait(self):
        hall = hall_of({"a": "set n 1; set m 2"})
        hall.run("later a as z", hand="y")
        hall.begin("x", "from a take n")
        self.assertEqual(steps(hall, "x", 2), ["went", "went"])
        self.assertEqual(hall.told()[0], "a half")
        self.assertEqual(hall.run("note z.n", hand="y"), ["z"])
        self.refuse(Lacking, {"module": "a", "part": "m", "half": True}, hall.run, "note z.m", hand="y")

    def test_within_a_body(self):
        hall = hall_of({"a": "set n 1", "b": "note 1; load a; note a.n"})
        hall.begin("x", "load a")
        hall.begin("y", "load b")
        self.assertEqual([hall.step("x"), *steps(hall, "y", 3)], ["went", "went", "went", "waits"])
        self.assertEqual([hall.step("x"), *steps(hall, "y", 2)], ["ended", "went", "ended"])
        self.assertEqual(hall.log[-2:], ("note b 1", "end b"))

    def test_what_it_waited_for_is_refused(self):
        hall = hall_of({"a": "set n 1; fail why"})
        hall.begin("x", "load a")
        hall.begin("y", "load a")
        self.assertEqual([hall.step("x"), hall.step("y"), hall.step("x")], ["went", "waits", "went"])
        self.refuse(Failed, {"trail": (("x", 0), ("a", 1))}, hall.step, "x")
        # y loads it itself
        self.assertEqual(steps(hall, "y", 2), ["went", "went"])
        self.refuse(Failed, {"trail": (("y", 0), ("a", 1))}, hall.step, "y")
        self.assertEqual(hall.log, ("begin a", "refuse a", "begin a", "refuse a"))

    def test_what_it_waited_for_is_dropped(self):
        hall = hall_of({"a": "set n 1; set m 2"})
        hall.begin("x", "load a")
        hall.begin("y", "load a\nnote a.m")
        self.assertEqual([hall.step("x"), hall.step("y")], ["went", "waits"])
        hall.run("drop a", hand="z")
        self.assertEqual(hall.step("y"), "went")
        self.assertEqual(hall.told(), ["a half"])
        self.assertEqual(hall.step("x"), "went")
        self.refuse(Lost, {"name": "a", "trail": (("x", 0),)}, hall.step, "x")
        self.assertEqual(steps(hall, "y", 3), ["went", "went", "ended"])

    def test_again_of_what_another_hand_does(self):
        hall = hall_of({"a": "note 1"})
        hall.begin("x", "load a")
        hall.begin("y", "again a")
        self.assertEqual([hall.step("x"), hall.step("y"), hall.step("x"), hall.step("y")],
                         ["went", "waits", "ended", "ended"])
        self.assertEqual(hall.log.count("begin a"), 1)
        hall.begin("y", "again a")
        self.assertEqual(steps(hall, "y", 2), ["went", "ended"])
        self.assertEqual(hall.log.count("begin a"), 2)

    def test_again_of_what_is_refused_by_then(self):
        hall = hall_of({"a": "note 1; fail why"})
        hall.begin("x", "load a")
        hall.begin("y", "again a")
        self.assertEqual([hall.step("x"), hall.step("y"), hall.step("x")], ["went", "waits", "went"])
        self.refuse(Failed, {}, hall.step, "x")
        hall.tick()
        lay(hall, {"a": "note 2"})
        self.assertEqual(steps(hall, "y", 2), ["went", "ended"])
        self.assertEqual(hall.log[-3:], ("begin a", "note a 2", "end a"))

    def test_a_hand_that_does_what_is_done_again_or_waked(self):
        hall = hall_of({"a": "note 1"})
        hall.run("load a", hand="z")
        hall.begin("x", "again a")
        hall.begin("y", "load a")
        self.assertEqual([hall.step("x"), hall.step("y"), hall.step("x"), hall.step("y")],
                         ["went", "waits", "ended", "ended"])
        hall = hall_of({"a": "set n 1"})
        hall.run("later a as o", hand="z")
        hall.begin("x", "from a take n")
        hall.begin("y", "from a take n")
        self.assertEqual([hall.step("x"), hall.step("y"), hall.step("x"), hall.step("y")],
                         ["went", "waits", "ended", "ended"])


class Rings(HallTest):
    def test_two_hands(self):
        hall = hall_of({"a": "set n 1; load b; set m b.n", "b": "set n 2; load a; set m a.n"})
        hall.begin("x", "load a")
        hall.begin("y", "load b")
        self.assertEqual(steps(hall, "x", 2) + steps(hall, "y", 2), ["went"] * 4)
        self.assertEqual(hall.step("x"), "waits")
        # x waits for y: so y has a as it is
        self.assertEqual(steps(hall, "y", 2), ["went", "ended"])
        self.assertEqual(steps(hall, "x", 2), ["went", "ended"])
        self.assertEqual((hall.names("a"), hall.names("b")),
                         (["b = <b>", "m = 2", "n = 1"], ["a = <a>", "m = 1", "n = 2"]))

    def ring(self, many):
        """A hall in which so many hands each did a body of a ring up to its row that loads the next one's."""
        parts = "abcdef"[:many]
        following = dict(zip(parts, parts[1:] + parts[:1]))
        hall = hall_of({part: f"set n 1; load {following[part]}; note {following[part]}.n" for part in parts})
        for part in parts:
            hall.begin(part, f"load {part}")
            self.assertEqual(steps(hall, part, 2), ["went", "went"])
        return hall, parts

    def test_up_to_six_hands(self):
        for many in range(2, 7):
            hall, parts = self.ring(many)
            with self.subTest(many=many):
                self.assertEqual([hall.step(part) for part in parts], ["waits"] * (many - 1) + ["went"])
                self.assertEqual([hall.step(part) for part in parts[:-1]], ["waits"] * (many - 1))
                self.assertEqual(hall.step(parts[-1]), "ended")
                for part in reversed(parts[:-1]):
                    self.assertEqual(steps(hall, part, 2), ["went", "ended"])
                self.assertEqual(hall.told(), [f"{part} whole" for part in parts])

    def test_the_last_one_to_come_doesnt_wait(self):
        for many in range(2, 7):
            for last in range(many):
                hall, parts = self.ring(many)
                order = [part for part in parts if part != parts[last]] + [parts[last]]
                self.assertEqual([hall.step(part) for part in order], ["waits"] * (many - 1) + ["went"])

    def test_waits_that_hang_on_a_ring(self):
        hall, parts = self.ring(3)
        hall.begin("z", "load a")
        self.assertEqual(hall.step("z"), "waits")
        told = all_steps(hall, ["z", *parts])
        self.assertEqual([words[-1] for words in told.values()], ["ended"] * 4)

    def test_who_is_waited_for_is_asked_anew(self):
        # y waits at a, which x did; x is refused, and z does a: y waits for z now, so z doesn't wait for y
        hall = hall_of({"a": "set n 1; load b; fail why", "b": "set n 2; load a; note a.n"})
        hall.begin("x", "may a as o")
        hall.begin("y", "load b")
        self.assertEqual([hall.step("x"), *steps(hall, "y", 3)], ["went", "went", "went", "waits"])
        hall.run("drop a", hand="w")
        hall.begin("z", "load a")
        self.assertEqual(steps(hall, "z", 3), ["went", "went", "went"])
        self.refuse(Failed, {"trail": (("z", 0), ("a", 2))}, hall.step, "z")
        self.assertEqual(steps(hall, "y", 1), ["went"])

    def test_one_of_many_hands_can_always_go_on(self):
        names = ("a", "b", "c", "d")
        for shift in range(1, 4):
            bodies = {name: "; ".join(f"load {other}" for other in names[at + shift:] + names[:at + shift])
                      for at, name in enumerate(names)}
            hall = hall_of(bodies)
            hands = ["u", "v", "w", "x", "y", "z"]
            for at, hand in enumerate(hands):
                hall.begin(hand, "\n".join(f"load {name}" for name in names[at % 4:] + names[:at % 4]))
            while hall.hands():
                went = [hall.step(hand) for hand in hall.hands()]
                self.assertNotEqual(set(went), {"waits"})
            self.assertEqual(hall.told(), [f"{name} whole" for name in names])

    def test_other_names_may_close_a_ring_in_which_a_hand_isnt(self):
        hall = hall_of({"a": "load q", "c": "load a", "o": "load q", "q": "load o", "r": "set n 1"}, packs="r")
        hall.put_finder(Other("r.s", "c"))
        hall.put_finder(Other("q", "r.s"))
        hall.begin("w", "load o")
        self.assertEqual(steps(hall, "w", 2), ["went", "went"])
        # w wants q already, for which it wants r.s: another hand may load q meanwhile
        hall.take_finder()
        for hand, row in (("u", "load q"), ("y", "load a"), ("x", "load c")):
            hall.begin(hand, row)
            self.assertEqual(steps(hall, hand, 2), ["went", "waits"])
        self.assertEqual(hall.step("w"), "ended")
        # q leads to c by now, so that y waits for x, and x for y
        self.assertEqual(hall.names("o"), ["q = <c>"])
        hall.begin("z", "load a")
        self.assertEqual(hall.step("z"), "waits")
        self.assertEqual([hall.step(hand) for hand in "yxz"], ["ended"] * 3)
        self.refuse(Lost, {"name": "q"}, hall.step, "u")


if __name__ == "__main__":
    unittest.main()
