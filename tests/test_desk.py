"""Point 22: a desk, line by line."""

import unittest

from loadhall.desk import PATH, Desk
from loadhall.errors import (
    Failed, Lacking, Lost, NoBody, NoFinder, NoLine, NoStore, NotFound, NotPack, TooDeep,
)
from things import NO_NAMES, NO_PARTS, NO_TEXTS, HallTest


class DeskTest(HallTest):
    def check(self, desk, *lines):
        """Each line, a tuple of it and of what is told of it, is told just that."""
        for line, told in lines:
            with self.subTest(line):
                self.assertEqual(desk.tell(line), told)

    def refuse_line(self, desk, error, line, **fields):
        """The line is refused with just that error, and counted."""
        done, refused = desk.done(), desk.refused()
        self.refuse(error, fields, desk.tell, line)
        self.assertEqual((desk.done(), desk.refused()), (done + 1, refused + 1))


class Making(DeskTest):
    def test_path_and_check(self):
        self.assertEqual(PATH, ("a",))
        desk = Desk()
        self.check(desk, ("put a x set n 1", "1"), ("run load x", "x"), ("look x n", "1"))
        desk = Desk(path=("s", "t"), check="sum")
        self.check(desk, ("put a x set n 1", "1"), ("put t x note 2", "1"), ("put s y load x", "1"),
                   ("run load y", "y"))
        self.assertEqual((desk.done(), desk.refused()), (4, 0))

    def test_check(self):
        for check, told in (("stamp", "note x 1"), ("sum", "note x 2")):
            desk = Desk(check=check)
            for line in ("put a x note 1", "run load x", "run drop x", "put a x note 2", "run load x"):
                desk.tell(line)
            self.assertEqual(desk.hall.log[-2], told)

    def test_refused(self):
        for path in (["a"], "a", ("a", "a"), ("A",), None):
            self.refuse(NoStore, {}, Desk, path=path)
        self.refuse(NoLine, {}, Desk, check="none")
        with self.assertRaises(TypeError):
            Desk(("a",))

    def test_two_desks_share_nothing(self):
        one, other = Desk(), Desk()
        one.tell("put a x")
        self.assertEqual((one.done(), other.done(), other.tell("put a y")), (1, 0, "1"))


class Bodies(DeskTest):
    def test_put_and_take(self):
        desk = Desk()
        self.check(desk, ("put a x set n 1 ; load y ; note n", "1"), ("put a y", "2"), ("put a x note 1", "2"),
                   ("put b x", "1"), ("take a x", "note 1"), ("take a y", ""), ("take b x", ""), ("put a y", "1"))

    def test_rows_of_a_body(self):
        desk = Desk()
        desk.tell("put a x set n 1 ; note n ; show n")
        self.assertEqual(desk.hall.store("a").entry("x"), ("set n 1\nnote n\nshow n", False, 0))
        self.check(desk, ("take a x", "set n 1 ; note n ; show n"))

    def test_whatever_rows(self):
        desk = Desk()
        for body in ("set N 1", "Z", "set n 1 ; set N 1 ; set n 1", "set n 1; set m 2", "; set n", "x ;", ";", "~ ; ;",
                     "; ;",
                     ";x ; x;", "\"!#&'()*+,-./:<=>?@[]^_`{|}"):
            self.check(desk, (f"put a x {body}", "1"), ("take a x", body))
        # what stands between two rows is taken from left to right
        desk.tell("put a x ; ; ; ;")
        self.assertEqual(desk.hall.store("a").entry("x")[0], ";\n; ;")

    def test_packs(self):
        desk = Desk()
        self.check(desk, ("pack a x set n 1", "1"), ("pack a y", "2"), ("put a x.z note 3", "3"), ("run load x.z", "x"),
                   ("log", "5 end x.z"), ("put a y.z", "4"))
        self.assertEqual([desk.hall.store("a").entry(name)[1] for name in ("x", "y", "x.z")], [True, True, False])

    def test_the_clock(self):
        desk = Desk()
        self.check(desk, ("tick", "1"), ("tick", "2"), ("put a x", "1"))
        self.assertEqual(desk.hall.store("a").entry("x")[2], 2)

    def test_what_doesnt_lie(self):
        desk = Desk()
        self.refuse_line(desk, NotFound, "take a x", name="x")
        self.refuse_line(desk, NotFound, "take zz x.y", name="x.y")


class Running(DeskTest):
    def test_run(self):
        desk = Desk()
        self.check(desk, ("put a x set n 1 ; set m 2", "1"), ("run note 3", "none"), ("run load x", "x"),
                   ("run set p x.n+4", "p x"), ("run from x take all", "m n p x"), ("run del p", "m n x"),
                   ("run set all 1", "all m n x"), ("run show p q", "all m n x"))

    def test_every_kind_of_row(self):
        desk = Desk()
        for line in ("pack a x set n 1", "put a x.y", "run load x", "run load x as p", "run later x.y as q",
                     "run may z as q",
                     "run from x take n", "run from x take n as m", "run from x take all", "run again x",
                     "run when p n+1",
                     "run drop x", "run note 1", "run set p -1+x", "run del p"):
            with self.subTest(line):
                if line == "run set p -1+x":
                    self.refuse_line(desk, Failed, line, word="sum")
                else:
                    desk.tell(line)
        self.refuse_line(desk, Failed, "run fail why", word="why", trail=(("main", 0),))

    def test_look(self):
        desk = Desk()
        self.check(desk, ("put a x set n -3 ; load y", "1"), ("put a y", "2"), ("run load x", "x"), ("look x n", "-3"),
                   ("look x y", "<y>"))
        self.refuse_line(desk, NotFound, "look z n", name="z", trail=())
        self.refuse_line(desk, Lacking, "look x z", module="x", part="z", trail=(("", 0),))

    def test_table(self):
        desk = Desk()
        self.check(desk, ("table", "none"), ("put a y load x", "1"), ("put a x", "2"), ("run load y", "y"),
                   ("put a z", "3"), ("tick", "1"), ("put a w", "4"), ("run later z as q", "q y"),
                   ("table", "x whole, y whole, z waiting"))

    def test_log(self):
        desk = Desk()
        self.check(desk, ("log", "0"), ("put a x note 7", "1"), ("run load x", "x"), ("log", "3 end x"),
                   ("run note x", "x"), ("log", "4 note main <x>"))

    def test_refused_as_the_hall_refuses(self):
        desk = Desk()
        self.check(desk, ("put a x set N", "1"), ("put a y load x", "2"), ("put a z drop z ; load z", "3"),
                   ("put a w drop w", "4"))
        self.refuse_line(desk, NoBody, "run load y", row=0, trail=(("main", 0), ("y", 0)))
        self.refuse_line(desk, TooDeep, "run load z", name="z")
        self.refuse_line(desk, Lost, "run load w", name="w", trail=(("main", 0),))
        self.check(desk, ("run note 1", "none"), ("put a y", "4"), ("tick", "1"), ("put a v", "5"), ("run load y", "y"))
        self.refuse_line(desk, NotPack, "run load y.z", name="y.z")


class FindersAndMarks(DeskTest):
    def test_finders(self):
        desk = Desk()
        self.check(desk, ("bar x", "barred along"), ("other y z", "other barred along"), ("put a x", "1"),
                   ("put a z", "2"),
                   ("run load y as p", "p"), ("run note p", "p"), ("log", "3 note main <z>"), ("free", "other"),
                   ("free", "barred"), ("run load x", "p x"), ("free", "along"))
        self.refuse_line(desk, NoFinder, "free")
        self.check(desk, ("bar x.y.z.a", "barred"), ("other a.b c", "other barred"))

    def test_barred(self):
        desk = Desk()
        self.check(desk, ("put a x", "1"), ("bar x", "barred along"))
        self.refuse_line(desk, NotFound, "run load x", name="x", trail=(("main", 0),))

    def test_marks(self):
        desk = Desk()
        self.check(desk, ("mark", "0"), ("put a x", "1"), ("mark", "1"), ("run load x", "x"), ("back 1", "none"),
                   ("run load x", "x"), ("mark", "2"), ("run drop x", "x"), ("back 2", "x whole"), ("back 0", "none"),
                   ("mark", "1"), ("put a y", "1"))
        for line in ("back 2", "back 3", "back 999999999"):
            self.refuse_line(desk, NoLine, line)

    def test_marks_dont_keep_what_was_counted(self):
        desk = Desk()
        self.check(desk, ("mark", "0"), ("back 0", "none"))
        self.assertEqual((desk.done(), desk.refused()), (2, 0))


class Planning(DeskTest):
    def test_none(self):
        self.check(Desk(), ("ties", "none"), ("rings", "none"), ("cut", "none"))

    def test_ties_rings_and_cut(self):
        desk = Desk()
        self.check(desk, ("put a x load y", "1"), ("put a y load x ; load z", "2"), ("put a z load z", "3"),
                   ("ties", "x>y y>x y>z z>z"), ("rings", "x+y z"), ("cut", "x>y z>z"), ("put a z", "3"),
                   ("put a x", "3"), ("ties", "y>x y>z"), ("rings", "none"), ("cut", "none"))

    def test_too_many_ties(self):
        desk = Desk()
        names = "vwxyz"
        for name in names:
            desk.tell(f"put a {name} " + " ; ".join(f"load {other}" for other in names))
        self.refuse_line(desk, TooDeep, "cut", name="v")


class NoLines(DeskTest):
    def test_no_text(self):
        desk = Desk()
        for line in NO_TEXTS + [b"tick"]:
            with self.subTest(repr(line)):
                self.refuse_line(desk, NoLine, line)

    def test_no_form(self):
        desk = Desk()
        for line in ("", " ", "x", "Tick", "TICK", "ticks", "put", "put a", "pack", "pack a", "take", "take a", "run",
                     "look",
                     "look x", "bar", "other", "other x", "back", "tick 1", "table x", "log 1", "free x", "free 0",
                     "mark 1", "ties a", "rings a", "cut a", "take a x y", "look x n m", "bar x y", "other x y z",
                     "back 1 2", "names", "load x", "set n 1", "step main", "begin"):
            with self.subTest(line):
                self.refuse_line(desk, NoLine, line)

    def test_blanks(self):
        desk = Desk()
        desk.tell("put a x set n 1")
        desk.tell("mark")
        for line in ("put a x", "put a x set n 1 ; set m 1", "pack a x set n 1", "take a x", "tick", "run note 1",
                     "look x n",
                     "table", "log", "bar x", "other x y", "mark", "back 0", "ties", "rings", "cut"):
            words = line.split(" ")
            for at in range(len(words) + 1):
                with self.subTest(line=line, at=at):
                    self.refuse_line(desk, NoLine, " ".join([*words[:at], "", *words[at:]]))
        self.check(desk, ("take a x", "set n 1"))

    def test_words_that_are_no_part_name_or_number(self):
        desk = Desk()
        bad_parts = [part for part in NO_PARTS if isinstance(part, str)]
        bad_names = [name for name in NO_NAMES if isinstance(name, str)]
        for part in bad_parts:
            for line in (f"put {part} x", f"put {part} x set n 1", f"pack {part} x", f"take {part} x",
                         f"look x {part}"):
                self.refuse_line(desk, NoLine, line)
        for name in bad_names:
            for line in (f"put a {name}", f"put a {name} set n 1", f"pack a {name}", f"take a {name}", f"look {name} n",
                         f"bar {name}", f"other {name} x", f"other x {name}"):
                with self.subTest(line):
                    # a name that ends in a blank leaves a body with a blank ahead, which is none either
                    self.refuse_line(desk, NoLine, line)
        for number in ("", "x", "00", "01", "-0", "+1", "1.0", "1000000000", "-1", "--1", "1_0", " 1", "\u0661"):
            self.refuse_line(desk, NoLine, f"back {number}")
        self.assertEqual(desk.tell("table"), "none")

    def test_rows_that_are_none(self):
        desk = Desk()
        for row in ("", "x", "set", "set n", "set N 1", "set n 01", "load", "load A", "load a as", "load a as b c",
                    "note",
                    "note 1 2", "fail 1", "show", "show a a", "when a", "from a take", "from a", "may a", "later a",
                    "again",
                    "drop", "drop .a", "look a b", "set n 1 ; set m 2", "step", "set n 1\nset m 2",
                    "from a take all as b"):
            with self.subTest(row):
                self.refuse_line(desk, NoLine, f"run {row}")
        self.assertEqual(desk.tell("run note 1"), "none")

    def test_ahead_of_the_hall(self):
        desk = Desk()
        for line in ("back x", "take A x", "take a X", "look X n", "free 1"):
            self.refuse_line(desk, NoLine, line)


class Counting(DeskTest):
    def test_done_and_refused(self):
        desk = Desk()
        self.assertEqual((desk.done(), desk.refused()), (0, 0))
        for line, refused in (("tick", False), ("x", True), (None, True), ("put a x fail why", False),
                              ("run load x", True),
                              ("take b x", True), ("table", False), ("back 0", True), ("free", False), ("free", True)):
            done = (desk.done(), desk.refused())
            if refused:
                with self.assertRaises((ValueError, LookupError, ArithmeticError)):
                    desk.tell(line)
            else:
                desk.tell(line)
            self.assertEqual((desk.done(), desk.refused()), (done[0] + 1, done[1] + refused))
        self.assertEqual((desk.done(), desk.refused()), (10, 6))

    def test_open_behind_a_refused_line(self):
        desk = Desk()
        self.check(desk, ("put a x set n 1 ; fail why", "1"), ("put a y set n 2", "2"))
        for line in ("x", "run load x", "look z n", "run load z"):
            with self.assertRaises(Exception):
                desk.tell(line)
            self.check(desk, ("table", "none"), ("run load y", "y"), ("look y n", "2"), ("run drop y", "y"))

    def test_line_by_its_name(self):
        self.assertEqual(Desk().tell(line="tick"), "1")


if __name__ == "__main__":
    unittest.main()
