"""Point 9: kept forms; points 2 to 4 as far as they bear on these."""

import itertools
import unittest

from loadhall.bodies import read_body
from loadhall.errors import NoBody, NoLine, NotFound
from loadhall.forms import CHECK, Forms
from loadhall.stores import Store
from things import NO_NAMES, state_of

CHECKS = ("stamp", "sum")

ONE, TWO, LONGER, BAD = "set n 1", "set n 2", "set n 12", "set N 1"


def store_with(text, *, name="a", at=0, part="s"):
    """A store in which the text lies under a name."""
    store = Store(part)
    store.put(name, text, at=at)
    return store


class Ways(unittest.TestCase):
    def test_stamp_where_none_is_told(self):
        self.assertEqual(CHECK, "stamp")
        self.assertEqual(Forms().check, "stamp")

    def test_each_way(self):
        for check in CHECKS:
            forms = Forms(check=check)
            self.assertEqual((forms.check, forms.made, forms.kept), (check, 0, 0))
            self.assertLessEqual({"check", "made", "kept"}, set(vars(forms)))

    def test_no_way(self):
        for check in (None, True, False, 0, 1, "", "Stamp", "stamps", "sum ", "STAMP", "none", ("stamp",), ["stamp"],
                      ("stamp", "sum"), ["sum"], (), [], b"stamp"):
            with self.subTest(repr(check)), self.assertRaises(NoLine) as caught:
                Forms(check=check)
            self.assertIs(type(caught.exception), NoLine)

    def test_by_its_name_alone(self):
        with self.assertRaises(TypeError):
            Forms("sum")


class Reading(unittest.TestCase):
    def refuse(self, error, forms, store, name, /, **fields):
        """The form is refused with that error and those fields, and forms and store are as they were."""
        told = (forms.made, forms.kept, state_of(store))
        with self.assertRaises(error) as caught:
            forms.form(store, name)
        self.assertIs(type(caught.exception), error)
        self.assertEqual(vars(caught.exception), {**fields, "trail": ()})
        self.assertEqual((forms.made, forms.kept, state_of(store)), told)

    def test_the_rows_of_the_text(self):
        for check in CHECKS:
            for text in ("", "set n 1", "load a.b as x\nset y x.n+1", "\n".join(["del a"] * 12)):
                forms = Forms(check=check)
                told = forms.form(store_with(text), "a")
                self.assertEqual(told, read_body(text))
                self.assertIs(type(told), list)
                self.assertTrue(all(type(row) is tuple for row in told))
                self.assertEqual((forms.made, forms.kept), (1, 1))

    def test_a_kept_form_is_read_once(self):
        for check in CHECKS:
            forms, store = Forms(check=check), store_with(ONE)
            for _ in range(3):
                self.assertEqual(forms.form(store, "a"), [("set", "n", "1")])
            self.assertEqual((forms.made, forms.kept), (1, 1))

    def test_nothing_lies_there(self):
        for check in CHECKS:
            forms, store = Forms(check=check), store_with(ONE, name="a.b")
            forms.form(store, "a.b")
            for name in ("a", "b", "a.b.c", "a.bb"):
                self.refuse(NotFound, forms, store, name, name=name)
            self.refuse(NotFound, forms, Store("t"), "a.b", name="a.b")

    def test_nothing_lies_under_what_is_no_name(self):
        forms, store = Forms(), store_with(ONE)
        for name in NO_NAMES:
            with self.subTest(repr(name)):
                self.refuse(NotFound, forms, store, name, name=name)

    def test_what_was_kept_is_not_given_where_nothing_lies(self):
        for check in CHECKS:
            forms, store = Forms(check=check), store_with(ONE)
            forms.form(store, "a")
            store.take("a")
            self.refuse(NotFound, forms, store, "a", name="a")
            self.assertEqual(forms.kept, 1)
            store.put("a", ONE)
            self.assertEqual(forms.form(store, "a"), read_body(ONE))
            self.assertEqual(forms.made, 1)

    def test_a_body_that_is_refused(self):
        for check in CHECKS:
            for text, row in ((BAD, 0), ("set n 1\nset", 1), ("set n 1\n", 1), ("\n".join(["del a"] * 13), None)):
                forms = Forms(check=check)
                self.refuse(NoBody, forms, store_with(text), "a", row=row)
                self.assertEqual((forms.made, forms.kept), (0, 0))

    def test_a_refused_body_ahead_of_a_good_one(self):
        for check in CHECKS:
            for at in (0, 1):
                forms, store = Forms(check=check), store_with(BAD)
                self.refuse(NoBody, forms, store, "a", row=0)
                store.put("a", ONE, at=at)
                self.assertEqual(forms.form(store, "a"), read_body(ONE))
                self.assertEqual((forms.made, forms.kept), (1, 1))

    def test_a_refused_body_behind_a_good_one(self):
        for check in CHECKS:
            forms, store = Forms(check=check), store_with(ONE)
            forms.form(store, "a")
            store.put("a", BAD, at=1)
            self.refuse(NoBody, forms, store, "a", row=0)
            self.assertEqual((forms.made, forms.kept), (1, 1))
            store.put("a", ONE, at=0)
            self.assertEqual(forms.form(store, "a"), read_body(ONE))
            self.assertEqual((forms.made, forms.kept), (1, 1))

    def test_a_refused_body_of_like_length_at_the_same_at(self):
        forms, store = Forms(), store_with(ONE)
        forms.form(store, "a")
        store.put("a", BAD)
        self.assertEqual(forms.form(store, "a"), read_body(ONE))
        forms, store = Forms(check="sum"), store_with(ONE)
        forms.form(store, "a")
        store.put("a", BAD)
        self.refuse(NoBody, forms, store, "a", row=0)

    def test_what_is_told_is_the_askers_own(self):
        for check in CHECKS:
            forms, store = Forms(check=check), store_with("set n 1\ndel n")
            for _ in range(3):
                told = forms.form(store, "a")
                self.assertEqual(told, [("set", "n", "1"), ("del", "n")])
                told[0] = None
                told.append("x")
            store.put("a", ONE, at=1)
            forms.form(store, "a")
            self.assertEqual(told, [None, ("del", "n"), "x"])

    def test_no_store_is_changed(self):
        for check in CHECKS:
            forms, store = Forms(check=check), store_with(ONE, at=3)
            told = state_of(store)
            forms.form(store, "a")
            forms.stale(store)
            forms.drop(store, "a")
            self.assertEqual(state_of(store), told)

    def test_arguments(self):
        forms, store = Forms(), store_with(ONE)
        self.assertEqual(forms.form(name="a", store=store), read_body(ONE))
        self.assertEqual(forms.stale(store=store), [])
        self.assertIs(forms.drop(name="a", store=store), True)


class ByStamp(unittest.TestCase):
    def behind(self, text, at):
        """Forms that kept one body of stamp 0, and what they tell behind the put of another one."""
        forms, store = Forms(check="stamp"), store_with(ONE)
        forms.form(store, "a")
        store.put("a", text, at=at)
        return forms.form(store, "a"), forms.made, forms.kept

    def test_a_text_of_like_length_at_the_same_at_is_not_seen(self):
        self.assertEqual(self.behind(TWO, 0), (read_body(ONE), 1, 1))

    def test_another_length_is_seen(self):
        self.assertEqual(self.behind(LONGER, 0), (read_body(LONGER), 2, 1))
        self.assertEqual(self.behind("", 0), ([], 2, 1))

    def test_another_stamp_is_seen(self):
        self.assertEqual(self.behind(TWO, 1), (read_body(TWO), 2, 1))

    def test_the_same_text_with_another_stamp_is_read_anew(self):
        self.assertEqual(self.behind(ONE, 1), (read_body(ONE), 2, 1))

    def test_a_lower_stamp_is_seen(self):
        forms, store = Forms(check="stamp"), store_with(ONE, at=5)
        forms.form(store, "a")
        store.put("a", TWO, at=4)
        self.assertEqual(forms.form(store, "a"), read_body(TWO))

    def test_the_stamp_is_the_bodys_not_the_stores(self):
        forms, store = Forms(check="stamp"), store_with(ONE)
        forms.form(store, "a")
        store.put("b", ONE, at=1)
        self.assertEqual((forms.form(store, "a"), forms.made), (read_body(ONE), 1))
        forms.drop(store, "a")
        for _ in range(2):
            self.assertEqual((forms.form(store, "a"), forms.made), (read_body(ONE), 2))
        store.put("a", TWO, at=1)
        self.assertEqual((forms.form(store, "a"), forms.made), (read_body(TWO), 3))

    def test_a_pack_is_no_other_text(self):
        forms, store = Forms(check="stamp"), store_with(ONE)
        forms.form(store, "a")
        store.put("a", ONE, pack=True)
        self.assertEqual((forms.form(store, "a"), forms.made), (read_body(ONE), 1))


class BySum(unittest.TestCase):
    def test_a_text_of_like_length_at_the_same_at_is_seen(self):
        forms, store = Forms(check="sum"), store_with(ONE)
        forms.form(store, "a")
        store.put("a", TWO)
        self.assertEqual((forms.form(store, "a"), forms.made, forms.kept), (read_body(TWO), 2, 1))

    def test_the_same_text_is_not_read_anew(self):
        forms, store = Forms(check="sum"), store_with(ONE)
        forms.form(store, "a")
        store.put("a", ONE, pack=True, at=7)
        self.assertEqual((forms.form(store, "a"), forms.made, forms.kept), (read_body(ONE), 1, 1))

    def test_only_the_last_one_is_kept(self):
        forms, store = Forms(check="sum"), store_with(ONE)
        for text in (ONE, TWO, ONE):
            store.put("a", text)
            self.assertEqual(forms.form(store, "a"), read_body(text))
        self.assertEqual((forms.made, forms.kept), (3, 1))

    def test_texts_of_the_same_letters_are_two(self):
        forms, store = Forms(check="sum"), store_with("set a 12")
        forms.form(store, "a")
        store.put("a", "set a 21")
        self.assertEqual(forms.form(store, "a"), read_body("set a 21"))


class Keeping(unittest.TestCase):
    def test_names_and_stores_are_told_apart(self):
        for check in CHECKS:
            forms = Forms(check=check)
            told = {("s", "a"): "set n 1", ("s", "b"): "set n 2", ("t", "a"): "set n 3", ("t", "a.b"): "set n 4"}
            stores = {"s": Store("s"), "t": Store("t")}
            for _ in range(2):
                for (part, name), text in told.items():
                    stores[part].put(name, text)
                    self.assertEqual(forms.form(stores[part], name), read_body(text))
            self.assertEqual((forms.made, forms.kept), (4, 4))

    def test_stores_of_one_name_are_one(self):
        forms = Forms()
        forms.form(store_with(ONE), "a")
        self.assertEqual(forms.form(store_with(TWO), "a"), read_body(ONE))
        self.assertEqual(forms.form(store_with(TWO, part="t"), "a"), read_body(TWO))
        self.assertEqual((forms.made, forms.kept), (2, 2))

    def test_drop(self):
        for check in CHECKS:
            forms, store = Forms(check=check), store_with(ONE)
            store.put("b", TWO)
            self.assertIs(forms.drop(store, "a"), False)
            forms.form(store, "a")
            forms.form(store, "b")
            self.assertIs(forms.drop(Store("t"), "a"), False)
            self.assertIs(forms.drop(store, "c"), False)
            self.assertEqual(forms.kept, 2)
            self.assertIs(forms.drop(store, "a"), True)
            self.assertEqual((forms.made, forms.kept), (2, 1))
            self.assertIs(forms.drop(store, "a"), False)
            self.assertEqual(forms.form(store, "a"), read_body(ONE))
            self.assertEqual((forms.made, forms.kept), (3, 2))

    def test_drop_of_what_lies_there_no_more(self):
        forms, store = Forms(), store_with(ONE)
        forms.form(store, "a")
        store.take("a")
        self.assertIs(forms.drop(store, "a"), True)
        self.assertEqual((forms.made, forms.kept), (1, 0))

    def test_drop_of_what_is_no_name(self):
        forms, store = Forms(), store_with(ONE)
        forms.form(store, "a")
        for name in NO_NAMES:
            with self.subTest(repr(name)):
                self.assertIs(forms.drop(store, name), False)
        self.assertEqual(forms.kept, 1)

    def test_behind_a_drop_what_was_stale_is_read(self):
        forms, store = Forms(), store_with(ONE)
        forms.form(store, "a")
        store.put("a", TWO)
        forms.drop(store, "a")
        self.assertEqual(forms.form(store, "a"), read_body(TWO))

    def test_forms_are_told_apart(self):
        one, other, store = Forms(), Forms(), store_with(ONE)
        one.form(store, "a")
        self.assertEqual((other.made, other.kept), (0, 0))
        self.assertIs(other.drop(store, "a"), False)


class Stale(unittest.TestCase):
    def test_nothing_is_stale_where_nothing_is_kept(self):
        for check in CHECKS:
            self.assertEqual(Forms(check=check).stale(Store("s")), [])
            self.assertEqual(Forms(check=check).stale(store_with(ONE)), [])

    def behind(self, text, at, *, check="stamp"):
        """What is stale behind a put in place of a body of stamp 0 that was kept, and behind asking for it."""
        forms, store = Forms(check=check), store_with(ONE)
        forms.form(store, "a")
        self.assertEqual(forms.stale(store), [])
        store.put("a", text, at=at)
        told = forms.stale(store)
        self.assertEqual((forms.made, forms.kept), (1, 1))
        return told

    def test_a_text_of_like_length_at_the_same_at(self):
        self.assertEqual(self.behind(TWO, 0), ["a"])
        self.assertEqual(self.behind(ONE, 0), [])

    def test_a_text_of_like_length_that_cannot_be_read(self):
        self.assertEqual(self.behind(BAD, 0), ["a"])

    def test_what_would_not_be_given_is_not_stale(self):
        for text, at in ((TWO, 1), (LONGER, 0), (BAD, 1), (BAD + " ", 0), ("", 0)):
            self.assertEqual(self.behind(text, at), [])

    def test_by_sum_nothing_is_stale(self):
        for text, at in ((ONE, 0), (TWO, 0), (BAD, 0), (LONGER, 0), (TWO, 1)):
            self.assertEqual(self.behind(text, at, check="sum"), [])

    def test_what_lies_there_no_more_is_not_stale(self):
        forms, store = Forms(), store_with(ONE)
        forms.form(store, "a")
        store.put("a", TWO)
        self.assertEqual(forms.stale(store), ["a"])
        store.take("a")
        self.assertEqual(forms.stale(store), [])
        store.put("a", TWO)
        self.assertEqual(forms.stale(store), ["a"])

    def test_it_stays_stale_till_it_is_dropped_or_read_anew(self):
        forms, store = Forms(), store_with(ONE)
        forms.form(store, "a")
        store.put("a", TWO)
        forms.form(store, "a")
        self.assertEqual(forms.stale(store), ["a"])
        forms.drop(store, "a")
        self.assertEqual(forms.stale(store), [])
        forms.form(store, "a")
        self.assertEqual(forms.stale(store), [])

    def test_names_rise_and_are_of_that_store_alone(self):
        forms, stores = Forms(), [Store("s"), Store("t")]
        names = ["b", "ab", "a.b", "a", "c"]
        for store in stores:
            for name in names:
                store.put(name, ONE)
                forms.form(store, name)
        for name in names[:4]:
            stores[0].put(name, TWO)
        stores[1].put("c", TWO)
        self.assertEqual(forms.stale(stores[0]), ["a", "a.b", "ab", "b"])
        self.assertEqual(forms.stale(stores[1]), ["c"])
        self.assertEqual(forms.stale(Store("u")), [])

    def test_what_is_told_is_the_askers_own(self):
        forms, store = Forms(), store_with(ONE)
        forms.form(store, "a")
        store.put("a", TWO)
        told = forms.stale(store)
        self.assertIs(type(told), list)
        told.append("x")
        self.assertEqual(forms.stale(store), ["a"])
        forms.drop(store, "a")
        self.assertEqual(told, ["a", "x"])


DEEDS = (("put", ONE, 0), ("put", TWO, 0), ("put", TWO, 1), ("put", BAD, 0), ("put", LONGER, 0), ("take",), ("form",),
         ("drop",))


class Told:
    """What a history of deeds with one name tells of forms, by another way than the program's: by rows."""

    def __init__(self, check):
        self.check, self.lying, self.kept, self.made = check, None, None, 0

    def would_be_given(self):
        if self.lying is None or self.kept is None:
            return False
        (text, stamp), (old, old_stamp) = self.lying, self.kept
        return text == old if self.check == "sum" else (stamp, len(text)) == (old_stamp, len(old))

    def form(self):
        """Tell the rows, or the class of the refusal."""
        if self.lying is None:
            return NotFound
        if not self.would_be_given():
            if self.lying[0] == BAD:
                return NoBody
            self.kept = self.lying
            self.made += 1
        return read_body(self.kept[0])

    def stale(self):
        if not self.would_be_given():
            return []
        return ["a"] if self.lying[0] == BAD or read_body(self.lying[0]) != read_body(self.kept[0]) else []


class Histories(unittest.TestCase):
    def test_all_short_histories(self):
        for check in CHECKS:
            for deeds in itertools.product(DEEDS, repeat=5):
                self.judge(check, deeds)

    def judge(self, check, deeds):
        """Behind each of the deeds the forms tell what the history of the deeds tells."""
        forms, store, told = Forms(check=check), Store("s"), Told(check)
        for deed in deeds:
            if deed[0] == "put":
                store.put("a", deed[1], at=deed[2])
                told.lying = (deed[1], deed[2])
            elif deed[0] == "take":
                if told.lying is not None:
                    store.take("a")
                told.lying = None
            elif deed[0] == "form":
                self.judge_form(forms, store, told.form())
            else:
                self.assertIs(forms.drop(store, "a"), told.kept is not None)
                told.kept = None
            self.assertEqual((forms.made, forms.kept, forms.stale(store)),
                             (told.made, 0 if told.kept is None else 1, told.stale()), (check, deeds))

    def judge_form(self, forms, store, due):
        if isinstance(due, list):
            self.assertEqual(forms.form(store, "a"), due)
        else:
            self.assertRaises(due, forms.form, store, "a")


if __name__ == "__main__":
    unittest.main()
