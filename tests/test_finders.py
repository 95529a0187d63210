"""Point 10: finders; points 2 to 4 as far as they bear on these."""

import itertools
import unittest

from loadhall.errors import NoFinder
from loadhall.finders import Along, Barred, Built, Other
from things import NO_NAMES, NO_TEXTS, LeastHall, state_of


def hall_with(*bodies, packs=()):
    """A hall in which a body lies in each told store, under the told name."""
    hall = LeastHall()
    for part, name in bodies:
        hall.store(part).put(name, "set n 1", pack=(part, name) in packs)
    return hall


class AllFinders(unittest.TestCase):
    def test_words(self):
        finders = {"along": Along(), "built": Built(()), "other": Other("a", "b"), "barred": Barred(())}
        for word, finder in finders.items():
            self.assertEqual(finder.word, word)
            self.assertIn("word", vars(finder))

    def test_arguments(self):
        hall = hall_with(("s", "a"))
        self.assertEqual(Along().find(hall=hall, places=("s",), name="a"), ("body", "s", None))
        finders = [Built(bodies=(("a", "x"),)), Other(new="b", old="a"), Barred(names=("a",))]
        for finder in finders:
            told = finder.find(hall=hall, places=("s",), name="a")
            self.assertEqual(told, finder.find("a", ("s",), hall))
            self.assertIs(type(told), tuple)
        for call, arguments in ((Along, (1,)), (Built, ()), (Other, ("a",)), (Barred, ())):
            with self.assertRaises(TypeError):
                call(*arguments)

    def test_but_along_none_asks_the_hall(self):
        for finder in (Built((("a", "x"),)), Other("a", "b"), Barred(("a",))):
            for places in ((), ("s", "t")):
                self.assertEqual(finder.find("a", places, None)[0], finder.word)
                self.assertIsNone(finder.find("c", places, None))

    def test_what_was_handed_in_is_told_again(self):
        hall = hall_with(("s", "a"), ("t", "b.c"))
        for finder in (Along(), Built((("a", "x"),)), Other("a", "b"), Barred(("a",))):
            told = [finder.find(name, ("s", "t"), hall) for name in ("a", "b", "b.c", "c")]
            self.assertEqual([finder.find(name, ("s", "t"), hall) for name in ("a", "b", "b.c", "c")], told)


class AlongBodies(unittest.TestCase):
    def test_a_body(self):
        hall = hall_with(("s", "a"), ("s", "b.c"))
        self.assertEqual(Along().find("a", ("s",), hall), ("body", "s", None))
        self.assertEqual(Along().find("b.c", ("s",), hall), ("body", "s", None))

    def test_a_pack_has_the_place_where_it_lies(self):
        hall = hall_with(("t", "a"), ("s", "b"), packs=[("t", "a")])
        self.assertEqual(Along().find("a", ("s", "t"), hall), ("body", "t", ("t",)))

    def test_the_first_store_along_the_places(self):
        hall = hall_with(("s", "a"), ("t", "a"), ("u", "a"), packs=[("t", "a")])
        for places in itertools.permutations(("s", "t", "u")):
            first = places[0]
            self.assertEqual(Along().find("a", places, hall), ("body", first, ("t",) if first == "t" else None))
        self.assertEqual(Along().find("a", ("u",), hall), ("body", "u", None))

    def test_none(self):
        hall = hall_with(("s", "a"), ("t", "b"))
        self.assertIsNone(Along().find("b", ("s",), hall))
        self.assertIsNone(Along().find("c", ("s", "t"), hall))
        self.assertIsNone(Along().find("a.b", ("s", "t"), hall))
        self.assertIsNone(Along().find("a", ("u",), hall))

    def test_no_places(self):
        hall = hall_with(("s", "a"), ("s", "b.c"))
        for name in ("a", "b", "c"):
            self.assertIsNone(Along().find(name, (), hall))

    def test_what_the_list_has_not_is_not_found(self):
        hall = hall_with(("s", "a"))
        Along().find("a", ("s",), hall)
        hall.store("s").put("b", "x")
        self.assertIsNone(Along().find("b", ("s",), hall))
        hall.store("t").put("b", "x", at=1)
        self.assertEqual(Along().find("b", ("s", "t"), hall), ("body", "t", None))
        hall.lists.forget()
        self.assertEqual(Along().find("b", ("s", "t"), hall), ("body", "s", None))

    def test_what_the_list_has_and_lies_there_no_more_is_not_found(self):
        hall = hall_with(("s", "a"), ("t", "a"))
        Along().find("a", ("s",), hall)
        hall.store("s").take("a")
        self.assertEqual(hall.lists.listed(hall.store("s")), ["a"])
        self.assertIsNone(Along().find("a", ("s",), hall))
        self.assertEqual(Along().find("a", ("s", "t"), hall), ("body", "t", None))

    def test_whether_it_is_a_pack_is_told_of_what_lies_there(self):
        hall = hall_with(("s", "a"))
        Along().find("a", ("s",), hall)
        hall.store("s").put("a", "no body", pack=True)
        self.assertEqual(Along().find("a", ("s",), hall), ("body", "s", ("s",)))

    def test_stores_behind_the_first_are_not_listed(self):
        hall = hall_with(("s", "a"))
        self.assertEqual(Along().find("a", ("s", "t"), hall), ("body", "s", None))
        hall.store("t").put("b", "x")
        self.assertEqual(Along().find("b", ("s", "t"), hall), ("body", "t", None))

    def test_stores_ahead_of_it_are_listed(self):
        hall = hall_with(("t", "a"))
        self.assertEqual(Along().find("a", ("s", "t"), hall), ("body", "t", None))
        hall.store("s").put("a", "x")
        hall.store("t").put("b", "x")
        self.assertEqual(Along().find("a", ("s", "t"), hall), ("body", "t", None))
        self.assertIsNone(Along().find("b", ("s", "t"), hall))

    def test_all_are_listed_where_none_has_it(self):
        hall = LeastHall()
        self.assertIsNone(Along().find("a", ("s", "t"), hall))
        for part in ("s", "t"):
            hall.store(part).put("a", "x")
        self.assertIsNone(Along().find("a", ("s", "t"), hall))

    def test_no_store_is_changed(self):
        hall = hall_with(("s", "a"), ("t", "a.b"))
        told = [state_of(hall.store(part)) for part in ("s", "t")]
        for name in ("a", "a.b", "b"):
            Along().find(name, ("s", "t"), hall)
        self.assertEqual([state_of(hall.store(part)) for part in ("s", "t")], told)


class AlongSpread(unittest.TestCase):
    def test_spread_over_stores_in_order(self):
        hall = hall_with(("s", "a.b"), ("t", "c"), ("u", "a.c.d"))
        self.assertEqual(Along().find("a", ("s", "t", "u"), hall), ("spread", None, ("s", "u")))
        self.assertEqual(Along().find("a", ("u", "t", "s"), hall), ("spread", None, ("u", "s")))
        self.assertEqual(Along().find("a", ("t", "s"), hall), ("spread", None, ("s",)))
        self.assertIsNone(Along().find("a", ("t",), hall))

    def test_beneath_a_name(self):
        hall = hall_with(("s", "a.b.c.d"))
        for name in ("a", "a.b", "a.b.c"):
            self.assertEqual(Along().find(name, ("s",), hall), ("spread", None, ("s",)))
        self.assertEqual(Along().find("a.b.c.d", ("s",), hall), ("body", "s", None))
        self.assertIsNone(Along().find("b", ("s",), hall))
        self.assertIsNone(Along().find("b.c", ("s",), hall))

    def test_the_same_signs_without_a_dot(self):
        hall = hall_with(("s", "ab"), ("s", "ab.c"), ("t", "a.bc"))
        self.assertIsNone(Along().find("a", ("s",), hall))
        self.assertEqual(Along().find("a", ("s", "t"), hall), ("spread", None, ("t",)))
        self.assertIsNone(Along().find("a.b", ("s", "t"), hall))

    def test_a_body_behind_goes_ahead_of_spread(self):
        hall = hall_with(("s", "a.b"), ("t", "a"), ("u", "a.c"), packs=[("t", "a")])
        self.assertEqual(Along().find("a", ("s", "t", "u"), hall), ("body", "t", ("t",)))
        self.assertEqual(Along().find("a", ("s", "u"), hall), ("spread", None, ("s", "u")))

    def test_a_body_with_others_beneath_it(self):
        hall = hall_with(("s", "a"), ("s", "a.b"))
        self.assertEqual(Along().find("a", ("s",), hall), ("body", "s", None))

    def test_lying_or_not(self):
        hall = hall_with(("s", "a"), ("s", "a.b"), ("t", "a.b"))
        hall.lists.listed(hall.store("s"))
        hall.store("s").take("a")
        self.assertEqual(Along().find("a", ("s", "t"), hall), ("spread", None, ("s", "t")))
        hall.store("s").take("a.b")
        self.assertEqual(Along().find("a", ("s", "t"), hall), ("spread", None, ("s", "t")))
        hall.store("s").put("b", "x", at=1)
        self.assertEqual(Along().find("a", ("s", "t"), hall), ("spread", None, ("t",)))

    def test_what_the_list_has_not(self):
        hall = hall_with(("s", "b"))
        hall.lists.listed(hall.store("s"))
        hall.store("s").put("a.b", "x")
        self.assertIsNone(Along().find("a", ("s",), hall))


class AlongAll(unittest.TestCase):
    """All that lies in two stores, listed before or not, against what the words of the point tell."""

    NAMES = ("a", "a.b", "ab", "ab.c")

    def test_all_of_two_stores(self):
        lots = [lot for many in range(5) for lot in itertools.combinations(self.NAMES, many)]
        for old, new, other in itertools.product(lots, lots, lots):
            self.judge(old, new, other)

    def judge(self, old, new, other):
        """Store s is listed when old lies in it, then new lies in it; in t lies other, a pack each."""
        hall = LeastHall()
        for name in old:
            hall.store("s").put(name, "x")
        hall.lists.listed(hall.store("s"))
        for name in old:
            hall.store("s").take(name)
        for name in new:
            hall.store("s").put(name, "x")
        for name in other:
            hall.store("t").put(name, "x", pack=True)
        for name in self.NAMES + ("b",):
            self.assertEqual(Along().find(name, ("s", "t"), hall), self.due(name, old, new, other), (name, old, new))

    def due(self, name, old, new, other):
        if name in set(old) & set(new):
            return ("body", "s", None)
        if name in other:
            return ("body", "t", ("t",))
        spread = tuple(part for part, lot in (("s", old), ("t", other))
                       if any(one[:len(name) + 1] == name + "." for one in lot))
        return ("spread", None, spread) if spread else None


class BuiltBodies(unittest.TestCase):
    def test_found(self):
        finder = Built((("a", "set n 1"), ("b.c", ""), ("d", "no body")))
        self.assertEqual(finder.find("a", (), None), ("built", "set n 1", None))
        self.assertEqual(finder.find("b.c", (), None), ("built", "", None))
        self.assertEqual(finder.find("d", (), None), ("built", "no body", None))

    def test_not_found(self):
        finder = Built((("a", "x"), ("b.c", "y")))
        for name in ("b", "c", "a.b", "b.c.d", "ab"):
            self.assertIsNone(finder.find(name, (), None))
        self.assertIsNone(Built(()).find("a", (), None))

    def test_the_first_such(self):
        finder = Built((("b", "x"), ("a", "one"), ("a", "two")))
        self.assertEqual(finder.find("a", (), None), ("built", "one", None))

    def test_otherwise(self):
        good = ("a", "x")
        things = [thing for thing in NO_TEXTS if thing not in ((), (("a", "b"),))]
        things += ["", "a", "ab", [good], ("ab",), (("a",),), (("a", "x", "y"),), (["a", "x"],), (good, ["b", "x"]),
                   (good, ()), (good, None), (good, "ab"), ((good,),), {"a": "x"}]
        things += [((name, "x"),) for name in NO_NAMES] + [(good, (name, "x")) for name in NO_NAMES]
        things += [(("a", text),) for text in NO_TEXTS] + [(good, ("b", text)) for text in NO_TEXTS]
        for thing in things:
            with self.subTest(repr(thing)), self.assertRaises(NoFinder) as caught:
                Built(thing)
            self.assertIs(type(caught.exception), NoFinder)

    def test_what_is_refused_is_not_changed(self):
        thing = [["a", "x"], ("b", ["y"])]
        with self.assertRaises(NoFinder):
            Built(thing)
        self.assertEqual(thing, [["a", "x"], ("b", ["y"])])


class OtherNames(unittest.TestCase):
    def test_the_name_and_names_beneath_it(self):
        finder = Other("a", "b.c")
        self.assertEqual(finder.find("a", (), None), ("other", "b.c", None))
        self.assertEqual(finder.find("a.x", (), None), ("other", "b.c.x", None))
        self.assertEqual(finder.find("a.x.y", (), None), ("other", "b.c.x.y", None))
        self.assertEqual(Other("a.b", "c").find("a.b.a.b", (), None), ("other", "c.a.b", None))

    def test_no_other_names(self):
        for name in ("b", "ab", "ab.c", "b.a", "aa", "b.c", "ba"):
            self.assertIsNone(Other("a", "z").find(name, (), None))
        self.assertIsNone(Other("a.b", "z").find("a", (), None))
        self.assertIsNone(Other("a.b", "z").find("a.bc", (), None))

    def test_what_is_told_may_be_no_name(self):
        self.assertEqual(Other("a", "b.c.d").find("a.x.y", (), None), ("other", "b.c.d.x.y", None))

    def test_to_itself_or_beneath_itself(self):
        self.assertEqual(Other("a", "a").find("a.b", (), None), ("other", "a.b", None))
        self.assertEqual(Other("a", "a.b").find("a", (), None), ("other", "a.b", None))

    def test_otherwise(self):
        for thing in NO_NAMES:
            for arguments in ((thing, "b"), ("a", thing), (thing, thing)):
                with self.subTest(repr(arguments)), self.assertRaises(NoFinder) as caught:
                    Other(*arguments)
                self.assertIs(type(caught.exception), NoFinder)


class BarredNames(unittest.TestCase):
    def test_barred(self):
        finder = Barred(("a", "b.c", "a"))
        for name in ("a", "b.c"):
            self.assertEqual(finder.find(name, (), None), ("barred", None, None))

    def test_not_barred(self):
        finder = Barred(("a", "b.c"))
        for name in ("b", "c", "a.b", "ab", "b.c.d"):
            self.assertIsNone(finder.find(name, (), None))
        self.assertIsNone(Barred(()).find("a", (), None))

    def test_otherwise(self):
        things = [None, True, False, 0, 1, "", "a", "ab", "a.b", [], ["a"], ["a", "b"], (("a",),), {"a": 1}]
        things += [(name,) for name in NO_NAMES] + [("a", name, "b") for name in NO_NAMES]
        for thing in things:
            with self.subTest(repr(thing)), self.assertRaises(NoFinder) as caught:
                Barred(thing)
            self.assertIs(type(caught.exception), NoFinder)


if __name__ == "__main__":
    unittest.main()
