"""Point 20: the fewest ties without which there is no ring, and rings that share no tie."""

import itertools
import random
import unittest

from loadhall.cuts import MOST_TIES, apart, cut, judge_cut
from loadhall.errors import TooDeep
from loadhall.halls import Hall
from loadhall.images import image
from loadhall.plans import rings, ties
from things import HallTest, hall_of, lay


def hall_with(pairs):
    """A hall with just these ties, written as two names with no blank."""
    names = sorted({name for pair in pairs.split() for name in pair})
    return hall_of({name: "; ".join(f"load {pair[1]}" for pair in pairs.split() if pair[0] == name) for name in names})


def tuples(pairs):
    return [tuple(pair) for pair in pairs.split()]


def has_ring(pairs):
    """Tell whether ties make a ring, by taking away what leads nowhere."""
    left = set(pairs)
    while True:
        ending = {pair for pair in left if not any(other[0] == pair[1] for other in left)}
        if not ending:
            return bool(left)
        left -= ending


def all_rounds(pairs):
    """All rounds of ties, each with its least name first."""
    names = sorted({name for pair in pairs for name in pair})
    paths, found = [[name] for name in names], []
    while paths:
        path = paths.pop()
        if (path[-1], path[0]) in pairs:
            found.append(path)
        paths += [[*path, name] for name in names if name > path[0] and name not in path and (path[-1], name) in pairs]
    return found


class Cut(HallTest):
    def test_most_ties(self):
        self.assertEqual(MOST_TIES, 10)

    def test_no_ring(self):
        for hall in (Hall(), hall_with("ab bc ac")):
            self.assertEqual((cut(hall), apart(hall)), ([], []))

    def test_one_ring(self):
        self.assertEqual(cut(hall_with("ab bc ca")), [("a", "b")])
        self.assertEqual(cut(hall_with("aa")), [("a", "a")])
        self.assertEqual(cut(hall_with("za ab bz bc")), [("a", "b")])

    def test_the_fewest(self):
        # two rings over the tie b to c: one is enough, though it isn't the least
        self.assertEqual(cut(hall_with("ab bc ca cd db")), [("b", "c")])
        self.assertEqual(cut(hall_with("ab ba bc cb")), [("a", "b"), ("b", "c")])

    def test_the_least_of_several_lots(self):
        self.assertEqual(cut(hall_with("xy yx ab ba mm")), [("a", "b"), ("m", "m"), ("x", "y")])

    def test_the_least_among_lots_that_are_told_apart(self):
        # lots a and c, b and d: their ties stand between one another
        self.assertEqual(cut(hall_with("ac ca bd db")), [("a", "c"), ("b", "d")])

    def test_ten_ties_in_one_lot(self):
        ten = "ab bc cd de ea ac ce eb bd da"
        self.assertEqual(len(ten.split()), 10)
        self.assertEqual(len(cut(hall_with(ten))), 3)
        # ties that lead out of the lot, or into it, count for nothing
        self.assertEqual(cut(hall_with(ten + " af gb fh")), cut(hall_with(ten)))

    def test_more_than_ten(self):
        eleven = "bc cd de ef fb bd df fc ce eb bb"
        self.refuse(TooDeep, {"name": "b", "trail": ()}, cut, hall_with(eleven))
        self.refuse(TooDeep, {"name": "b"}, cut, hall_with(eleven + " aa gh hg"))
        self.refuse(TooDeep, {"name": "b"}, cut, hall_with(eleven + " ab ac"))

    def test_the_first_such_lot(self):
        one, other = "bd df fh hj jb bf fj jd dh hb bb", "ac ce eg gi ia ae ei ic cg ga cc"
        self.refuse(TooDeep, {"name": "a"}, cut, hall_with(one + " " + other))

    def test_two_lots_of_six(self):
        hall = hall_with("ab bc ca ac cb ba de ef fd df fe ed")
        self.assertEqual(cut(hall), tuples("ab ac bc de df ef"))


class Judge(HallTest):
    def test_cuts(self):
        hall = hall_with("ab ba bc cb")
        for some in ("ab bc", "ba cb", "cb ba", "ab ba bc cb", "ab cb", "bc ba ab"):
            self.assertIs(judge_cut(hall, tuples(some)), True)
        for some in ("", "ab", "ab ba", "bc cb"):
            self.assertIs(judge_cut(hall, tuples(some)), False)

    def test_no_cuts(self):
        hall = hall_with("ab ba")
        for some in (None, True, False, 0, 1, "", "ab", (), (("a", "b"),), ["ab"], [["a", "b"]],
                     [("a", "b"), ("a", "b")],
                     [("a", "b"), ("a", "c")], [("a", "b", "c")], [("a",)], [()], [None], [("a", "b"), None],
                     [("a", "b"), [("b", "a")]], [[("a", "b")]], [("a", ["b"])], [1, ("a", "b")], [("a", "b"), True]):
            with self.subTest(repr(some)):
                self.assertIs(judge_cut(hall, some), False)
        self.assertIs(judge_cut(hall, some=[("a", "b")]), True)

    def test_where_there_is_no_ring(self):
        hall = hall_with("ab bc")
        self.assertIs(judge_cut(hall, []), True)
        self.assertIs(judge_cut(hall, [("a", "b")]), True)
        self.assertIs(judge_cut(hall, [("b", "a")]), False)
        self.assertIs(judge_cut(Hall(), []), True)

    def test_more_than_ten_ties(self):
        hall = hall_with("ab bc cd de ea ac ce eb bd da aa bb")
        self.assertIs(judge_cut(hall, tuples("aa bb")), False)
        self.assertIs(judge_cut(hall, ties(hall)), True)

    def test_what_is_handed_in_isnt_changed(self):
        some = tuples("cb ba")
        judge_cut(hall_with("ab ba bc cb"), some)
        self.assertEqual(some, tuples("cb ba"))


class Apart(HallTest):
    def test_rounds(self):
        self.assertEqual(apart(hall_with("ab bc ca")), [["a", "b", "c"]])
        self.assertEqual(apart(hall_with("cb ba ac")), [["a", "c", "b"]])
        self.assertEqual(apart(hall_with("zz ab ba")), [["z"], ["a", "b"]])

    def test_the_shortest_first(self):
        # the round of a over b and c shares the tie b to c with the shorter one
        self.assertEqual(apart(hall_with("ab bc cd da cb")), [["b", "c"]])
        self.assertEqual(apart(hall_with("ab bc cd da ca")), [["a", "b", "c"]])

    def test_again_and_again(self):
        self.assertEqual(apart(hall_with("ab ba bc cb ca ac aa")), [["a"], ["a", "b"], ["a", "c"], ["b", "c"]])

    def test_the_least_of_the_shortest(self):
        self.assertEqual(apart(hall_with("ad db ba ac cb")), [["a", "c", "b"]])

    def test_more_than_ten_ties(self):
        self.assertEqual(apart(hall_with("ab bc cd de ea ac ce eb bd da aa bb")),
                         [["a"], ["b"], ["a", "b", "d"], ["a", "c", "e"], ["b", "c", "d", "e"]])

    def test_nothing_is_changed(self):
        hall = hall_with("ab ba bc cb")
        told = image(hall)
        for ask in (cut, apart):
            ask(hall).append("x")
            ask(hall)[0] += ("x",) if ask is cut else ["x"]
            self.assertNotIn("x", ask(hall)[0])
        judge_cut(hall, [])
        self.assertEqual(image(hall), told)


class ByChance(HallTest):
    def test_against_all_that_there_is(self):
        for number in range(150):
            chance = random.Random(number)
            names = "abcdef"[:chance.randrange(2, 7)]
            pairs = sorted({(chance.choice(names), chance.choice(names)) for _ in range(chance.randrange(1, 11))})
            hall = hall_with(" ".join("".join(pair) for pair in pairs))
            with self.subTest(pairs=pairs):
                self.assertEqual(ties(hall), pairs)
                self.check_lots(hall, pairs)
                self.check_cut(hall, pairs)
                self.check_apart(hall, pairs)

    def check_lots(self, hall, pairs):
        rounds = all_rounds(pairs)
        self.assertEqual(sorted({name for lot in rings(hall) for name in lot}),
                         sorted({name for one in rounds for name in one}))
        for one in rounds:
            self.assertEqual(len([lot for lot in rings(hall) if set(one) <= set(lot)]), 1)

    def check_cut(self, hall, pairs):
        told = cut(hall)
        many = next(many for many in range(11) if any(
            not has_ring([pair for pair in pairs if pair not in some]) for some in itertools.combinations(pairs, many)))
        cuts = [list(some) for some in itertools.combinations(pairs, many)
                if not has_ring([pair for pair in pairs if pair not in some])]
        self.assertEqual(told, min(cuts))
        self.assertTrue(judge_cut(hall, told))
        for at in range(len(told)):
            self.assertFalse(judge_cut(hall, told[:at] + told[at + 1:]))

    def check_apart(self, hall, pairs):
        left, found = list(pairs), []
        while all_rounds(left):
            one = min(all_rounds(left), key=lambda path: (len(path), path))
            found.append(one)
            left = [pair for pair in left if pair not in zip(one, one[1:] + one[:1])]
        self.assertEqual(apart(hall), found)
        self.assertLessEqual(len(found), len(cut(hall)))

    def test_without_its_cut_a_hall_has_no_ring(self):
        hall = hall_of({"a": "load b; from c take n", "b": "may a as x", "c": "load b; load c"})
        self.assertEqual(cut(hall), [("b", "a"), ("c", "c")])
        lay(hall, {"b": "", "c": "load b"})
        self.assertEqual((rings(hall), cut(hall)), ([], []))


if __name__ == "__main__":
    unittest.main()
