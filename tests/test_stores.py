"""Point 7: stores, and point 8: lists; points 2 to 4 as far as they bear on these."""

import itertools
import unittest

from loadhall.errors import NoBody, NoName, NoStore, NotFound
from loadhall.stores import Lists, Store
from things import NO_NAMES, NO_PARTS, NO_TEXTS, state_of


def store_with(*names, at=0):
    """A store named s in which a body lies under each of the names."""
    store = Store("s")
    for name in names:
        store.put(name, "set n 1", at=at)
    return store


class NewStores(unittest.TestCase):
    def test_an_empty_store(self):
        store = Store("abcdefgh")
        self.assertEqual(state_of(store), ("abcdefgh", 0, 0, []))
        self.assertIs(type(store.changed), int)
        self.assertIsNone(store.entry("a"))
        self.assertIsNone(store.entry("a.b.c.d"))

    def test_values_are_set_when_it_is_created(self):
        self.assertLessEqual({"name", "changed"}, set(vars(Store("s"))))

    def test_a_name_that_is_no_part(self):
        for thing in NO_PARTS:
            with self.subTest(repr(thing)), self.assertRaises(NoStore) as caught:
                Store(thing)
            self.assertIs(type(caught.exception), NoStore)

    def test_by_name(self):
        self.assertEqual(Store(name="s").name, "s")

    def test_two_stores_are_two(self):
        one, other = Store("s"), Store("s")
        one.put("a", "x", at=4)
        self.assertEqual(state_of(other), ("s", 0, 0, []))


class Putting(unittest.TestCase):
    def test_what_is_put_lies_there(self):
        store = Store("s")
        self.assertIsNone(store.put("a.b", "set n 1", pack=True, at=7))
        self.assertEqual(state_of(store), ("s", 7, 1, [("a.b", ("set n 1", True, 7))]))
        self.assertIs(type(store.entry("a.b")), tuple)

    def test_no_pack_and_at_0_where_they_are_left_out(self):
        store = Store("s")
        store.put("a", "x")
        text, pack, stamp = store.entry("a")
        self.assertEqual((text, stamp, store.changed), ("x", 0, 0))
        self.assertIs(pack, False)
        store.put("b", "x", pack=True)
        self.assertIs(store.entry("b")[1], True)

    def test_changed_is_the_at_of_the_last_one(self):
        store = store_with("a", at=9)
        store.put("b", "x", at=3)
        self.assertEqual(store.changed, 3)
        self.assertEqual((store.entry("a")[2], store.entry("b")[2]), (9, 3))
        store.put("c", "x")
        self.assertEqual(store.changed, 0)

    def test_in_the_place_of_another(self):
        store = store_with("a", "b", at=1)
        store.put("a", "note 2", pack=True, at=2)
        self.assertEqual(state_of(store),
                         ("s", 2, 2, [("a", ("note 2", True, 2)), ("b", ("set n 1", False, 1))]))
        store.put("a", "")
        self.assertEqual(store.entry("a"), ("", False, 0))
        self.assertEqual(len(store), 2)

    def test_whatever_text(self):
        for text in ("", " ", "\n", "no body", "Set A 1", "set n 1\n", "x" * 600, "set n 1\n" * 13, "~", "\u00e9"):
            store = Store("s")
            store.put("a", text)
            self.assertEqual(store.entry("a"), (text, False, 0))
            self.assertEqual(store.take("a"), text)

    def test_names_of_each_length_and_beneath_others_that_do_not_lie(self):
        store = Store("s")
        for name in ("a.b.c.d", "abcdefgh", "a.b", "set.take"):
            store.put(name, name)
        self.assertEqual(store.names(), ["a.b", "a.b.c.d", "abcdefgh", "set.take"])
        self.assertIsNone(store.entry("a"))
        self.assertIsNone(store.entry("a.b.c"))

    def test_what_is_refused_leaves_all_as_it_was(self):
        for store in (Store("s"), store_with("a", at=5)):
            told = state_of(store)
            for name in NO_NAMES:
                with self.subTest(repr(name)), self.assertRaises(NoName) as caught:
                    store.put(name, "x", pack=True, at=8)
                self.assertIs(type(caught.exception), NoName)
                self.assertEqual(state_of(store), told)
            for text in NO_TEXTS + [b"x"]:
                for name in ("a", "b.c"):
                    with self.subTest(repr(text)), self.assertRaises(NoBody) as caught:
                        store.put(name, text, pack=True, at=8)
                    self.assertIsNone(caught.exception.row)
                    self.assertEqual(caught.exception.trail, ())
                    self.assertEqual(state_of(store), told)

    def test_the_name_is_refused_ahead_of_the_text(self):
        for name in NO_NAMES:
            with self.assertRaises(NoName):
                Store("s").put(name, None)

    def test_what_is_handed_in_is_not_changed(self):
        name, text = ["a", ["b"]], ["x", [1]]
        with self.assertRaises(NoName):
            Store("s").put(name, text)
        with self.assertRaises(NoBody):
            Store("s").put("a", text)
        self.assertEqual((name, text), (["a", ["b"]], ["x", [1]]))

    def test_arguments(self):
        store = Store("s")
        store.put(at=2, pack=True, text="x", name="a")
        self.assertEqual(store.entry(name="a"), ("x", True, 2))
        for arguments in (("a", "x", True), ("a", "x", True, 1), ("a",)):
            with self.assertRaises(TypeError):
                store.put(*arguments)


class Taking(unittest.TestCase):
    def test_what_is_taken_lies_there_no_more(self):
        store = store_with("a", "a.b")
        store.put("b", "note 5", pack=True, at=3)
        self.assertEqual(store.take("b", at=6), "note 5")
        self.assertEqual(state_of(store), ("s", 6, 2, [("a", ("set n 1", False, 0)), ("a.b", ("set n 1", False, 0))]))
        self.assertIsNone(store.entry("b"))

    def test_at_0_where_it_is_left_out(self):
        store = store_with("a", at=4)
        self.assertEqual(store.take("a"), "set n 1")
        self.assertEqual(state_of(store), ("s", 0, 0, []))

    def test_an_elder_is_taken_alone(self):
        store = store_with("a", "a.b", "ab")
        store.take("a")
        self.assertEqual(store.names(), ["a.b", "ab"])

    def test_put_again_behind_it(self):
        store = store_with("a")
        store.take("a", at=1)
        store.put("a", "x", at=2)
        self.assertEqual(state_of(store), ("s", 2, 1, [("a", ("x", False, 2))]))

    def test_what_does_not_lie_there(self):
        store = store_with("a.b", "c", at=5)
        store.take("c", at=6)
        told = state_of(store)
        for name in ("a", "b", "a.b.c", "c", "a.bb"):
            with self.subTest(name), self.assertRaises(NotFound) as caught:
                store.take(name, at=9)
            self.assertEqual((caught.exception.name, caught.exception.trail), (name, ()))
            self.assertEqual(state_of(store), told)
        with self.assertRaises(NotFound):
            Store("s").take("a")

    def test_what_is_no_name(self):
        store = store_with("a", at=5)
        told = state_of(store)
        for name in NO_NAMES:
            with self.subTest(repr(name)), self.assertRaises(NoName):
                store.take(name, at=9)
            self.assertEqual(state_of(store), told)

    def test_arguments(self):
        store = store_with("a", "b")
        self.assertEqual(store.take(at=3, name="a"), "set n 1")
        self.assertEqual(store.changed, 3)
        with self.assertRaises(TypeError):
            store.take("b", 3)
        self.assertEqual(store.names(), ["b"])


class Asking(unittest.TestCase):
    def test_entry_of_what_is_no_name(self):
        for store in (Store("s"), store_with("a")):
            for name in NO_NAMES:
                with self.subTest(repr(name)), self.assertRaises(NoName):
                    store.entry(name)

    def test_names_rise(self):
        names = ["a", "a.b", "a.b.c", "aa", "ab", "ab.a", "b", "z"]
        for order in itertools.permutations(names[:5]):
            self.assertEqual(store_with(*order).names(), names[:5])
        self.assertEqual(store_with(*reversed(names)).names(), names)
        self.assertEqual(len(store_with(*names, *names)), len(names))

    def test_names_are_the_askers_own(self):
        store = store_with("a", "b")
        told = store.names()
        self.assertIs(type(told), list)
        told.append("c")
        told[0] = None
        self.assertEqual(state_of(store)[2:], (2, [("a", ("set n 1", False, 0)), ("b", ("set n 1", False, 0))]))
        store.put("d", "x")
        self.assertEqual(told, [None, "b", "c"])

    def test_what_is_asked_changes_nothing(self):
        store = store_with("a", at=3)
        told = state_of(store)
        store.entry("b")
        store.names()
        len(store)
        self.assertEqual(state_of(store), told)


class Listing(unittest.TestCase):
    def test_a_store_is_listed_when_it_is_asked_first(self):
        lists = Lists()
        store = Store("s")
        self.assertEqual(Lists().listed(store), [])
        store.put("b", "x")
        store.put("a.b", "x")
        self.assertEqual(lists.listed(store), ["a.b", "b"])

    def test_what_is_put_at_the_same_at_is_not_seen(self):
        lists, store = Lists(), store_with("a", at=2)
        self.assertEqual(lists.listed(store), ["a"])
        store.put("b", "x", at=2)
        self.assertEqual(lists.listed(store), ["a"])
        store.take("a", at=2)
        self.assertEqual(lists.listed(store), ["a"])
        store.put("c", "x", at=3)
        self.assertEqual(lists.listed(store), ["b", "c"])

    def test_at_0_in_an_empty_store_that_was_listed(self):
        lists, store = Lists(), Store("s")
        self.assertEqual(lists.listed(store), [])
        store.put("a", "x")
        self.assertEqual(lists.listed(store), [])
        store.put("b", "x", at=1)
        self.assertEqual(lists.listed(store), ["a", "b"])

    def test_another_at_and_back_again_is_not_seen_either(self):
        lists, store = Lists(), store_with("a", at=1)
        lists.listed(store)
        store.put("b", "x", at=2)
        store.put("c", "x", at=1)
        self.assertEqual(lists.listed(store), ["a"])

    def test_a_lower_at_is_seen(self):
        lists, store = Lists(), store_with("a", at=5)
        lists.listed(store)
        store.put("b", "x", at=4)
        self.assertEqual(lists.listed(store), ["a", "b"])

    def test_what_is_taken_at_another_at_is_seen(self):
        lists, store = Lists(), store_with("a", "b")
        lists.listed(store)
        store.take("a", at=1)
        self.assertEqual(lists.listed(store), ["b"])

    def test_what_is_refused_is_no_change(self):
        lists, store = Lists(), store_with("a")
        lists.listed(store)
        store.put("b", "x")
        with self.assertRaises(NotFound):
            store.take("c", at=1)
        with self.assertRaises(NoBody):
            store.put("c", None, at=1)
        self.assertEqual(lists.listed(store), ["a"])

    def test_forget(self):
        lists = Lists()
        stores = [Store("s"), Store("t")]
        for store in stores:
            lists.listed(store)
            store.put("a", "x")
            self.assertEqual(lists.listed(store), [])
        self.assertIsNone(lists.forget())
        for store in stores:
            self.assertEqual(lists.listed(store), ["a"])
        stores[0].put("b", "x")
        self.assertEqual(lists.listed(stores[0]), ["a"])
        self.assertIsNone(Lists().forget())

    def test_stores_are_told_apart_by_their_names(self):
        lists = Lists()
        one, other, like = store_with("a"), Store("t"), store_with("b")
        other.put("c", "x")
        self.assertEqual(lists.listed(one), ["a"])
        self.assertEqual(lists.listed(other), ["c"])
        self.assertEqual(lists.listed(like), ["a"])

    def test_lists_are_told_apart(self):
        lists, store = Lists(), Store("s")
        lists.listed(store)
        store.put("a", "x")
        self.assertEqual(Lists().listed(store), ["a"])
        self.assertEqual(lists.listed(store), [])

    def test_what_is_listed_is_the_askers_own(self):
        lists, store = Lists(), store_with("a", "b")
        for _ in range(2):
            told = lists.listed(store)
            self.assertIs(type(told), list)
            told.append("c")
            told[0] = None
        self.assertEqual(lists.listed(store), ["a", "b"])
        store.put("d", "x", at=1)
        lists.listed(store)
        self.assertEqual(told, [None, "b", "c"])
        self.assertEqual(store.names(), ["a", "b", "d"])

    def test_listing_changes_no_store(self):
        store = store_with("a", at=3)
        told = state_of(store)
        Lists().listed(store)
        self.assertEqual(state_of(store), told)

    def test_arguments(self):
        self.assertEqual(Lists().listed(store=store_with("a")), ["a"])
        with self.assertRaises(TypeError):
            Lists([])


DEEDS = (("put", "a", 0), ("put", "b", 1), ("take", "a", 0), ("take", "b", 1), ("list",), ("forget",))


class Histories(unittest.TestCase):
    def test_all_short_histories(self):
        for many in range(1, 6):
            for deeds in itertools.product(DEEDS, repeat=many):
                self.judge(deeds)

    def judge(self, deeds):
        """Behind each of the deeds the store and its list are as the history of the deeds tells."""
        store, lists = Store("s"), Lists()
        lying, changed, kept = {}, 0, None
        for deed in deeds:
            if deed[0] == "put":
                store.put(deed[1], "x", at=deed[2])
                lying[deed[1]], changed = ("x", False, deed[2]), deed[2]
            elif deed[0] == "take" and deed[1] in lying:
                self.assertEqual(store.take(deed[1], at=deed[2]), "x")
                del lying[deed[1]]
                changed = deed[2]
            elif deed[0] == "take":
                with self.assertRaises(NotFound):
                    store.take(deed[1], at=deed[2])
            elif deed[0] == "list":
                if kept is None or kept[0] != changed:
                    kept = (changed, sorted(lying))
                self.assertEqual(lists.listed(store), kept[1], deeds)
            else:
                lists.forget()
                kept = None
            self.assertEqual(state_of(store), ("s", changed, len(lying), sorted(lying.items())), deeds)


if __name__ == "__main__":
    unittest.main()
