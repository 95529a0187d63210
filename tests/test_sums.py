"""Point 11: worths, looks, sums and when rows, as rows of hands and bodies meet them."""

import unittest

from loadhall.errors import Failed, Lacking, TooDeep
from things import HallTest, hall_of, rows


def whens(many):
    """Modules a, ab, .. of which each keeps a sum that looks at the next one's, the last one at a number."""
    names = ["a" + "b" * at for at in range(many)]
    bodies = {name: f"load {names[at + 1]} as n; when k n.k" for at, name in enumerate(names[:-1])}
    return {**bodies, names[-1]: "set m 5; when k m"}


class Worths(HallTest):
    def test_numbers(self):
        self.check_rows(hall_of({}), "note 0; note 7; note -3; note 999999999", ["main 0", "main 7", "main -3",
                                                                                "main 999999999"])

    def test_paths(self):
        hall = hall_of({"a": "load b as c; set n 4", "b": "set m 6"})
        self.check_rows(hall, "load a as x; note x; note x.n; note x.c; note x.c.m",
                        ["main <a>", "main 4", "main <b>", "main 6"])

    def test_several_terms(self):
        hall = hall_of({"a": "set n 4"})
        self.check_rows(hall, "load a; set p 3; note 1+p+a.n; note -9+p; note p+p+p+p+p+p+p+p",
                        ["main 8", "main -6", "main 24"])

    def test_a_name_that_isnt_set(self):
        self.refuse_row(hall_of({}), "set n 1; note m", Lacking, trail=(("main", 1),), module="main", part="m",
                        half=False)
        hall = hall_of({"a": "note m"})
        self.refuse_row(hall, "load a", Lacking, trail=(("main", 0), ("a", 0)), module="a", part="m", half=True)

    def test_a_part_that_isnt_set(self):
        hall = hall_of({"a": "set n 1"})
        self.refuse_row(hall, "load a; note a.m", Lacking, trail=(("main", 1),), module="a", part="m", half=False)

    def test_a_part_of_a_number(self):
        hall = hall_of({"a": "set n 1"})
        self.refuse_row(hall, "load a; note a.n.m", Lacking, trail=(("main", 1),), module="", part="m", half=False)
        self.refuse_row(hall, "set n 1; note n.m", Lacking, trail=(("main", 1),), module="", part="m", half=False)

    def test_a_part_of_a_half_module(self):
        hall = hall_of({"a": "set n 1; load b; set m 2", "b": "load a; note a.n; note a.m"})
        self.refuse_row(hall, "load a", Lacking, trail=(("main", 0), ("a", 1), ("b", 2)),
                        module="a", part="m", half=True)
        self.assertIn("note b 1", hall.log)

    def test_a_sum_with_a_module(self):
        hall = hall_of({"a": ""})
        for text in ("a+1", "1+a", "a+a", "1+2+a"):
            self.refuse_row(hall, f"load a; note {text}", Failed, trail=(("main", 1),), word="sum")

    def test_all_terms_are_reckoned_ahead_of_failed(self):
        hall = hall_of({"a": ""})
        self.refuse_row(hall, "load a; note a+1+b", Lacking, trail=(("main", 1),), module="main", part="b", half=False)
        self.refuse_row(hall, "load a; note b+a+c", Lacking, trail=(("main", 1),), module="main", part="b", half=False)

    def test_a_long_sum(self):
        texts = ["set n 999999999"] + ["set n n+n+n+n+n+n+n+n"] * 9 + ["set n n+n+n+n+n+n+n"]
        hall = hall_of({})
        hall.run("\n".join(texts))
        n = 999999999 * 8 ** 9 * 7
        self.assertEqual(hall.names("main", hand=True), [f"n = {n}"])
        self.assertEqual(len(str(n)), 18)
        self.refuse_row(hall, "set n n+n", Failed, word="sum")
        hall.run("note n\nset m -1\nset n n+m")
        self.assertEqual(hall.names("main", hand=True), ["m = -1", f"n = {n - 1}"])

    def test_just_eighteen_figures(self):
        for sign, other in (("", "-"), ("-", "")):
            hall = hall_of({})
            hall.run("\n".join([f"set n {sign}999999999", "set b n"] + ["set m b+b+b+b+b", "set b m+m"] * 9))
            self.check_rows(hall, "note b+n", [f"main {sign}{'9' * 18}"])
            self.refuse_row(hall, f"note b+n+{sign}1", Failed, word="sum")
            # the whole sum counts, not what it comes to on the way
            self.check_rows(hall, f"note b+n+{sign}1+{other}1", [f"main {sign}{'9' * 18}"])


class Whens(HallTest):
    def test_a_look_by_when(self):
        hall = hall_of({"a": "when k n+1; set n 4"})
        self.check_rows(hall, "load a; note a.k; note a.k+a.n", ["main 5", "main 9"])

    def test_reckoned_anew_at_each_look(self):
        hall = hall_of({"a": "set n 1; when k n; load b; set n 2", "b": "load a; note a.k"})
        self.check_rows(hall, "load a; note a.k", ["b 1", "main 2"])

    def test_a_name_that_is_set_comes_first(self):
        hall = hall_of({"a": "when k 1; set k 2"})
        self.check_rows(hall, "load a; note a.k", ["main 2"])

    def test_a_later_when_row_takes_the_place(self):
        hall = hall_of({"a": "when k 1; when k 2"})
        self.check_rows(hall, "load a; note a.k", ["main 2"])

    def test_sums_arent_asked_for_the_first_part(self):
        hall = hall_of({"a": "when k 1; note k"})
        self.refuse_row(hall, "load a", Lacking, trail=(("main", 0), ("a", 1)), module="a", part="k", half=True)
        self.refuse_row(hall, "when k 1; note k", Lacking, trail=(("main", 1),), module="main", part="k", half=False)

    def test_a_when_row_is_reckoned_at_the_look_alone(self):
        hall = hall_of({"a": "when k n.m+z"})
        hall.run("load a")
        self.refuse_row(hall, "note a.k", Lacking, module="a", part="n", half=False)

    def test_four_within_one_another(self):
        hall = hall_of(whens(4))
        self.check_rows(hall, "load a; note a.k", ["main 5"])
        self.check_rows(hall, "from a take k as p; note p; set q a.k+1; note q", ["main 5", "main 6"])
        self.assertEqual(hall.worth("a", "k"), 5)

    def test_the_fifth(self):
        for body in ("note a.k", "set p 1+a.k", "from a take k", "from a take k as p", "from a take all",
                     "load a.k as p"):
            hall = hall_of({**whens(5), "a.k": ""}, packs="a")
            # the table has a.k, and an a in which it isn't set
            hall.run(rows("load a.k; drop a; load a"))
            hall.run(rows("load abbbb"))
            if body == "from a take all":
                hall.put("s", "a", rows(whens(5)["a"] + "; show k"))
                hall.tick()
                hall.put("s", "z", "")
                hall.run("drop a\nload a")
            with self.subTest(body):
                self.refuse_row(hall, body, TooDeep, name="abbbb")

    def test_the_fifth_is_the_one_of_the_last_module(self):
        hall = hall_of(whens(6))
        self.refuse_row(hall, "load a; note a.k", TooDeep, trail=(("main", 1),), name="abbbb")
        self.check_rows(hall, "load abb; note abb.k", ["main 5"])

    def test_beside_one_another_they_are_no_deeper(self):
        hall = hall_of(whens(4))
        self.check_rows(hall, "load a; note a.k+a.k+a.k; note a.k+1", ["main 15", "main 6"])

    def test_a_sum_that_looks_at_itself(self):
        hall = hall_of({"a": "load a as o; when k o.k"})
        self.refuse_row(hall, "load a; note a.k", TooDeep, trail=(("main", 1),), name="a")

    def test_failed_within(self):
        hall = hall_of({"a": "load a as o; when k o+1"})
        self.refuse_row(hall, "load a; note a.k", Failed, trail=(("main", 1),), word="sum")

    def test_half_is_told_of_the_module_of_the_sum(self):
        hall = hall_of({"a": "load b as n; when k n.q", "b": "load c", "c": "load a; note a.k"})
        self.refuse_row(hall, "load a; note 1", Lacking, trail=(("main", 0), ("a", 0), ("b", 0), ("c", 1)),
                        module="a", part="k", half=True)
        hall = hall_of({"a": "when k n.q; load b as n", "b": "set p 1; load c", "c": "load b; load a as x; note a.k"})
        self.refuse_row(hall, "load a", Lacking, trail=(("main", 0), ("a", 1), ("b", 1), ("c", 2)),
                        module="c", part="a", half=True)


if __name__ == "__main__":
    unittest.main()
