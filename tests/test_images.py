"""Point 25: images: all that a hall is but its marks, as a text; and halls that are made of these."""

import random
import unittest

from histories import do, history
from loadhall.errors import Failed, NoHand, NoLine, NotFound
from loadhall.finders import Along, Barred, Built, Other
from loadhall.halls import Hall
from loadhall.images import hall_by, image
from things import NO_TEXTS, HallTest, hall_of, lay, rows

SIGNS = [chr(sign) for sign in range(32, 127)]


def busy_hall():
    """A hall of everything: hands in the midst of bodies, one that waits, waiting and half modules, stale lists."""
    hall = hall_of({"a": "set n 1; when k n; show k n; load b; note b.m", "b": "set m 2; load a; note a.n; set p 3",
                    "c": "note 4", "d": "", "d.e": "set q 5"}, packs="d", path=("s", "t"))
    lay(hall, {"f": "set N <1>|~n\\"}, part="u")
    hall.put_finder(Other("g", "d.e"))
    hall.put_finder(Built((("h", "set n 1\nnote n"), ("i", ""))), at=1)
    hall.put_finder(Barred(("j", "k.l")))
    hall.run(rows("load g as o; later c as w; load h; set z -7"))
    hall.begin("x", "load a\nnote 1")
    hall.begin("y", "load b\nnote 2")
    for hand in "xyxyxyxx":
        hall.step(hand)
    hall.tick(3)
    hall.put("s", "d", "note 9", pack=True)
    hall.store("s").put("l", "note 6", at=0)
    return hall


class Whole(HallTest):
    def same(self, hall):
        """The hall's image makes a hall of the same image; it is told."""
        text = image(hall)
        self.assertIsInstance(text, str)
        self.assertEqual(image(hall), text)
        other = hall_by(text)
        self.assertIsInstance(other, Hall)
        self.assertIsNot(other, hall)
        self.assertEqual(image(other), text)
        return other

    def test_a_bare_hall(self):
        for hall in (Hall(), Hall(path=("a", "b")), Hall(check="sum")):
            other = self.same(hall)
            self.assertEqual((other.path, other.forms.check, other.clock, other.log),
                             (hall.path, hall.forms.check, 0, ()))
            self.assertEqual([finder.word for finder in other.finders], ["along"])

    def test_a_busy_hall(self):
        hall = busy_hall()
        other = self.same(hall)
        self.assertEqual((other.clock, other.log, other.path, other.told(), other.hands()),
                         (hall.clock, hall.log, hall.path, hall.told(), hall.hands()))
        self.assertEqual([finder.word for finder in other.finders], ["barred", "other", "built", "along"])
        for part in "stu":
            one, two = hall.store(part), other.store(part)
            self.assertEqual((one.changed, [one.entry(name) for name in one.names()]),
                             (two.changed, [two.entry(name) for name in two.names()]))
        self.assertEqual((other.forms.made, other.forms.kept), (hall.forms.made, hall.forms.kept))

    def test_it_goes_on_as_the_other_does(self):
        hall = busy_hall()
        other = self.same(hall)
        deeds = [("step", hand, {}) for hand in "xyxyxyxyxyxyxy"]
        deeds += [("worth", "c", "n", {}), ("run", "load d\nload l", {}), ("take_finder", {}), ("run", "load j", {}),
                  ("put", "s", "j", "note z", {}), ("tick", {}), ("run", "load j\nload i\nnote z", {}),
                  ("run", "from a take all\nnote k", {}), ("set_path", ("t",), {}), ("run", "load m", {})]
        for deed in deeds:
            one, two = do(hall, deed), do(other, deed)
            self.assertEqual(getattr(one, "word", one), getattr(two, "word", two))
            self.assertEqual(image(hall), image(other))
        self.assertEqual(hall.log, other.log)

    def test_they_share_nothing(self):
        hall = busy_hall()
        text = image(hall)
        other = hall_by(text)
        other.run("set z 1\ndrop d")
        other.store("s").take("a")
        other.forms.drop(other.store("s"), "d.e")
        other.lists.forget()
        other.step("x")
        self.assertEqual(image(hall), text)
        self.assertNotEqual(image(other), text)

    def test_without_marks(self):
        hall = hall_of({"a": ""})
        text = image(hall)
        hall.mark()
        hall.mark()
        self.assertEqual(image(hall), text)
        other = hall_by(text)
        self.refuse(NoLine, {}, other.back, 0)
        self.assertEqual((other.mark(), hall.mark()), (0, 2))

    def test_what_is_asked_changes_no_image(self):
        hall = busy_hall()
        text = image(hall)
        for ask in (hall.told, hall.hands, lambda: hall.names("a"), lambda: hall.names("x", hand=True), hall.mark,
                    lambda: hall.store("s").names(), lambda: hall.forms.stale(hall.store("s"))):
            ask()
            self.assertEqual(image(hall), text)

    def test_each_deed_changes_it(self):
        hall = busy_hall()
        text = image(hall)
        for deed in (("tick", {}), ("put", "s", "n", "", {}), ("take", "s", "a", {}), ("store", "v", {}),
                     ("take_finder", {}),
                     ("put_finder", Along(), {}), ("set_path", (), {}), ("run", "set z 1", {}), ("step", "x", {}),
                     ("begin", "v", "", {}), ("forget", {})):
            other = hall_by(text)
            do(other, deed)
            with self.subTest(deed[0]):
                self.assertNotEqual(image(other), text)

    def test_stale_lists_and_forms(self):
        hall = hall_of({"a": "note 1"})
        hall.run("load a\ndrop a")
        lay(hall, {"a": "note 2", "b": ""})
        other = self.same(hall)
        self.assertEqual(other.forms.stale(other.store("s")), ["a"])
        self.check_rows(other, "load a", ["a 1"])
        self.refuse_row(other, "load b", NotFound, name="b")

    def test_packs_and_spread_ones(self):
        hall = hall_of({"a": "", "a.b": "note 1", "c.d": "note 2"}, packs="a")
        hall.run("load a\nload c")
        self.check_rows(self.same(hall), "load a.b; load c.d", ["a.b 1", "c.d 2"])

    def test_modules_that_are_one(self):
        hall = hall_of({"a": "set n 1; load a"})
        hall.put_finder(Other("b", "a"))
        hall.run("load a as x\nload b as y")
        other = self.same(hall)
        other.tick()
        lay(other, {"a": "set n 2"})
        self.check_rows(other, "again a; note x.n; note y.n; note x.a.a.n", ["main 2"] * 3)

    def test_hands(self):
        hall = hall_of({"a": "note 1; fail why"})
        hall.begin("x", "load a")
        hall.begin("y", "may a as z\nnote z")
        self.assertEqual([hall.step("x"), hall.step("y")], ["went", "waits"])
        other = self.same(hall)
        for one in (hall, other):
            self.assertEqual([one.step("y"), one.step("x")], ["waits", "went"])
            self.refuse(Failed, {"trail": (("x", 0), ("a", 1))}, one.step, "x")
            self.assertEqual([one.step("y") for _ in range(4)], ["went", "went", "went", "ended"])
        self.assertEqual(image(hall), image(other))
        for hand in "bcde":
            other.run("", hand=hand)
        self.refuse(NoHand, {}, other.run, "")

    def test_two_hundred_bodies(self):
        hall = hall_of({"a": "drop a; load a"})
        hall.begin("x", "load a")
        for _ in range(399):
            hall.step("x")
        other = self.same(hall)
        for one in (hall, other):
            self.assertEqual(one.step("x"), "went")
            with self.assertRaises(ArithmeticError) as caught:
                one.step("x")
            self.assertEqual(len(caught.exception.trail), 201)
        self.assertEqual(image(hall), image(other))

    def test_texts_of_every_sign(self):
        hall = Hall()
        for at, text in enumerate(("".join(SIGNS), "~n", "~~", "\n", "\n~", "<>|", "~|", "None", "i1", "(1",
                                   image(Hall()))):
            hall.put("s", "a" * (at % 8 + 1) + ".b" * (at // 8), text)
        other = self.same(hall)
        for name in hall.store("s").names():
            self.assertEqual(other.store("s").entry(name), hall.store("s").entry(name))

    def test_by_names(self):
        self.assertEqual(image(hall=hall_by(text=image(hall=Hall()))), image(Hall()))


class Slips(HallTest):
    def refuse_text(self, text):
        try:
            hall_by(text)
        except NoLine:
            return
        self.fail(repr(text))

    def test_what_is_no_text(self):
        for thing in NO_TEXTS + [b"", image(Hall()).encode(), "", "\ud800", "<>", "<" * 40,
                                 image(Hall())[:-1] + "\ud800>"]:
            with self.subTest(repr(thing)):
                self.refuse(NoLine, {}, hall_by, thing)

    def texts(self):
        """Images of halls, one of which has an image among its bodies."""
        hall = Hall(path=("s",))
        yield image(hall)
        hall.put("s", "a", image(Hall()))
        yield image(hall)
        yield image(busy_hall())
        for number in (1, 2):
            hall = Hall(path=("s", "t"))
            for deed in history(number):
                do(hall, deed)
            yield image(hall)

    def test_one_sign_left_out(self):
        for text in self.texts():
            for at in range(len(text)):
                self.refuse_text(text[:at] + text[at + 1:])

    def test_a_beginning_or_an_end_left_out(self):
        for text in self.texts():
            for at in range(len(text)):
                self.refuse_text(text[:at])
                self.refuse_text(text[at + 1:])

    def test_two_signs_exchanged(self):
        for text in self.texts():
            for at in range(len(text) - 1):
                if text[at] != text[at + 1]:
                    self.refuse_text(text[:at] + text[at + 1] + text[at] + text[at + 2:])

    def test_one_sign_changed_or_put_in(self):
        for text in self.texts():
            chance = random.Random(len(text))
            for at in range(len(text) + 1):
                # every sign where the text tells of slips, some signs everywhere
                signs = SIGNS + ["\n", "\t", "\u00e9", "\u0661"] if at < 40 else chance.sample(SIGNS, 6)
                for sign in [*signs, *text[max(0, at - 1):at + 1]]:
                    self.refuse_text(text[:at] + sign + text[at:])
                    if at < len(text) and sign != text[at]:
                        self.refuse_text(text[:at] + sign + text[at + 1:])

    def test_a_refused_image_leaves_nothing(self):
        hall = busy_hall()
        text = image(hall)
        self.refuse_text(text + " ")
        self.refuse_text("")
        self.assertEqual(image(hall), text)


if __name__ == "__main__":
    unittest.main()
