"""Points 1, 2, 11 to 18, 21 and 25 over long histories: what a hall tells is what the model tells, and nothing else.

The histories are made by chance, the same ones at each run.
"""

import random
import sys
import unittest

from histories import all_told, do, do_in_model, history
from loadhall.anew import lagging
from loadhall.halls import Hall
from loadhall.images import hall_by, image
from loadhall.plans import rings, ties
from loadhall.quiet import loud
from model import Model

PATH = ("s", "t")


def check_of(number):
    return "stamp" if number % 2 else "sum"


def new_hall(number):
    return Hall(path=PATH, check=check_of(number))


class Histories(unittest.TestCase):
    maxDiff = None

    def setUp(self):
        # the model's generators stand within one another
        self.addCleanup(sys.setrecursionlimit, sys.getrecursionlimit())
        sys.setrecursionlimit(20000)

    def test_as_the_model_tells(self):
        for number in range(700):
            hall, model = new_hall(number), Model(PATH, check_of(number))
            for at, deed in enumerate(history(number)):
                told = do(hall, deed), all_told(hall)
                if told != (do_in_model(model, deed), all_told(model)):
                    self.fail(f"history {number} at {at}: {deed}")

    def test_many_hands(self):
        for number in range(10000, 10300):
            hall, model = new_hall(number), Model(PATH, check_of(number))
            for at, deed in enumerate(history(number, finders=False, length=80)):
                told = do(hall, deed), all_told(hall)
                if told != (do_in_model(model, deed), all_told(model)):
                    self.fail(f"history {number} at {at}: {deed}")

    def test_two_hundred_bodies_as_the_model_tells(self):
        for body in ("drop a\nload a", "may b as x\ndrop a\nload a", "drop a\nlater a as x\nnote x.n"):
            hall, model = Hall(path=("s",)), Model(("s",))
            for deed in (("put", "s", "a", body, {}), ("run", "load a", {"hand": "main"}), ("worth", "a", "n", {})):
                self.assertEqual(do(hall, deed), do_in_model(model, deed))
                self.assertEqual(all_told(hall), all_told(model))

    def test_an_image_and_a_mark_go_on_as_the_hall_does(self):
        for number in range(20000, 20250):
            hall, deeds = new_hall(number), history(number)
            ahead = random.Random(number).randrange(len(deeds))
            for deed in deeds[:ahead]:
                do(hall, deed)
            text = image(hall)
            mark, other = hall.mark(), hall_by(text)
            self.assertEqual((image(hall), image(other), other.mark()), (text, text, 0))
            told = []
            for deed in deeds[ahead:]:
                told.append((do(hall, deed), all_told(hall)))
                self.assertEqual((do(other, deed), all_told(other)), told[-1])
            end = image(hall)
            self.assertEqual(image(other), end)
            hall.back(mark)
            self.assertEqual(image(hall), text)
            self.assertEqual([(do(hall, deed), all_told(hall)) for deed in deeds[ahead:]], told)
            self.assertEqual(image(hall), end)

    def test_run_is_begin_and_steps(self):
        for number in range(30000, 30200):
            one, other = new_hall(number), new_hall(number)
            for deed in history(number, hands=False):
                told = do(one, deed)
                if deed[0] != "run":
                    self.assertEqual(do(other, deed), told)
                    continue
                hand = deed[2]["hand"]
                do(other, ("begin", hand, deed[1], {}))
                while other.hands():
                    last = do(other, ("step", hand, {}))
                if isinstance(told, tuple):
                    self.assertEqual(last, told)
                self.assertEqual(image(one), image(other))

    def test_a_refused_load_leaves_no_half_made_module(self):
        for number in range(40000, 40200):
            hall = new_hall(number)
            for deed in history(number, hands=False):
                do(hall, deed)
                self.assertEqual([text for text in hall.told() if text.endswith(" half")], [])

    def test_hands_that_have_rows_left_can_go_on(self):
        for number in range(50000, 50200):
            hall = new_hall(number)
            for deed in history(number, finders=False):
                do(hall, deed)
            for _ in range(3000):
                hands = hall.hands()
                if not hands:
                    break
                self.assertNotEqual({do(hall, ("step", hand, {})) for hand in hands}, {"waits"})
            self.assertEqual(hall.hands(), [])

    def test_plans_change_nothing(self):
        for number in range(60000, 60050):
            hall = new_hall(number)
            for deed in history(number):
                do(hall, deed)
            text = image(hall)
            for ask in (ties, rings, loud, lagging):
                self.assertEqual(ask(hall), ask(hall))
            self.assertEqual(image(hall), text)


if __name__ == "__main__":
    unittest.main()
