"""The checker of even papers: points 31, 32 and 33, and point 5 of even papers."""

import unittest
from fractions import Fraction
from itertools import product

from evenpoints.errors import EvenError, NoPaper
from evenpoints.evenchecker import lets_even
from evenpoints.looks import many_looks, unevenness
from papers import FAMILIES, fault_plainly, node_at, other_paper, paths_of, with_node
from things import HUGE, OTHER_THINGS, big, box_size_plainly, deep, inside_plainly, scattered, small

ZERO, HALF, ONE = (0, 1), (1, 2), (1, 1)
TWO = (2, 1)
LINE = (((0, 1),), ((1, 3),), ((2, 3),))
PLANE = (((0, 1), (1, 2)), ((1, 2), (0, 1)), ((1, 2), (1, 2)))
SETS = (LINE, PLANE, scattered(5, 1), scattered(3, 2), scattered(2, 3), ((HALF, (1, 3), ZERO, (2, 3)),))
NODES = (
    ("cut", 0, 0, HALF), ("cut", 0, 0, HALF, ()), ("cut", 0, 0, HALF, (), (), ()), ["cut", 0, 0, HALF, (), ()],
    ("cut", True, 0, HALF, (), ()), ("cut", False, 0, HALF, (), ()), ("cut", 0, False, HALF, (), ()),
    ("cut", 0, True, HALF, (), ()), ("cut", 4, 0, HALF, (), ()), ("cut", -1, 0, HALF, (), ()), ("cut", 0, 2, HALF, (), ()),
    ("cut", 0, -1, HALF, (), ()), ("cut", None, 0, HALF, (), ()), ("cut", "0", 0, HALF, (), ()), ("cut", (0,), 0, HALF, (), ()),
    ("cut", 0, None, HALF, (), ()), ("cut", 0, 0, [1, 2], (), ()), ("cut", 0, 0, (2, 4), (), ()), ("cut", 0, 0, (1, True), (), ()),
    ("cut", 0, 0, None, (), ()), ("cut", 0, 0, 0, (), ()), ("cut", 0, 0, (1, 2, 3), (), ()), ("cut", 0, 0, (1, -2), (), ()),
    ("cut", 0, 0, (-1, 1), (), ()), ("cut", 0, 0, (1, 1), (), ()), ("cut", 0, 0, (5, 2), (), ()), ("cut", 0, 0, (-5, 2), (), ()),
    ("cut", 0, 1, HALF, [], ()), ("cut", 0, 0, HALF, (), None), ("cut", 0, 0, HALF, (), ((),)), ("cut", 0, 0, HALF, (), ()),
    ("cut", 0, 1, HALF, (), ()), ("cut", 0, 0, ZERO, (), ()), ("cut", 0, 0, (1, HUGE), (), ()), ("cut", HUGE, 0, HALF, (), ()),
    ("ways", 0), ("ways", 0, ()), ("ways", 0, (), (), ()), ["ways", 0, (), ()], ("ways", True, (), ()), ("ways", False, (), ()),
    ("ways", 4, (), ()), ("ways", -1, (), ()), ("ways", None, (), ()), ("ways", "0", (), ()), ("ways", 0, [], ()),
    ("ways", 0, (), ()), ("ways", 0, (), "ways"), ("ways", 0, ("ways", 0, (), ()), ()), ("cuts", 0, 0, HALF, (), ()),
    ("way", 0, (), ()), ("ways", 0, 0, HALF, (), ()), ("cut", 0, (), ()), (0, 0, (), ()), ((), ()), ((), (), (), ()),
    (None,) * 4, (None,) * 6, ("",), ("cut",), ("ways",),
)


def told_of(points, family, number, thing):
    """Tell None where a thing is let by, else (path, word)."""
    try:
        told = lets_even(points, family, number, thing)
    except NoPaper as refusal:
        return (refusal.path, refusal.word)
    assert told is True, told
    return None


def a_little_less(number):
    return small(big(number) - Fraction(1, 10 ** 12))


class LetByTest(unittest.TestCase):
    def test_by_the_words(self):
        for points in SETS:
            for family in FAMILIES:
                if many_looks(points, family) <= 3000:
                    number = unevenness(points, family)
                    for seed in range(4):
                        paper = other_paper(points, family, number, seed)
                        self.assertIsNone(fault_plainly(points, family, number, paper))
                        self.assertIs(lets_even(points, family, number, paper), True)
                        self.assertIs(lets_even(points, family, TWO, paper), True)

    def test_for_less_over_or_lack(self):
        words = set()
        for points in SETS:
            for family in FAMILIES:
                if many_looks(points, family) <= 3000:
                    number = unevenness(points, family)
                    for seed in range(4):
                        paper = other_paper(points, family, number, seed)
                        for lower in (a_little_less(number), ZERO, (-1, 2)):
                            fault = fault_plainly(points, family, lower, paper)
                            self.assertIn(fault[1], ("over", "lack"))
                            self.assertEqual(told_of(points, family, lower, paper), fault)
                            words.add(fault[1])
        self.assertEqual(words, {"over", "lack"})

    def test_no_box_misses_by_more(self):
        ends = [small(Fraction(k, 6)) for k in range(-1, 7)]
        words = {"corner": ("to",), "inner": ("from",), "round": ("from", "round")}
        for points in SETS[:4]:
            for family in FAMILIES:
                for number in (unevenness(points, family), (9, 10)):
                    if big(number) >= big(unevenness(points, family)):
                        self.assertIs(lets_even(points, family, number, other_paper(points, family, number, 5)), True)
                rows = [(word,) + row for word in words[family] for row in product(ends, repeat=1 if word == "to" else 2)]
                number = big(unevenness(points, family))
                for box in list(product(rows, repeat=len(points[0])))[::1 if len(points[0]) == 1 else 11]:
                    miss = Fraction(inside_plainly(points, box, "half"), len(points)) - box_size_plainly(box)
                    self.assertLessEqual(abs(miss), number)

    def test_a_leaf_alone(self):
        self.assertIs(lets_even(LINE, "corner", ONE, ()), True)
        self.assertIs(lets_even(LINE, "inner", ONE, ()), True)
        self.assertEqual(told_of(LINE, "round", ONE, ()), ((), "word"))
        self.assertIs(lets_even(LINE, "round", ONE, ("ways", 0, (), ())), True)
        self.assertEqual(told_of(LINE, "corner", (99, 100), ()), ((), "over"))

    def test_just_the_number(self):
        # By hand: at 1/3 the over of all three ranges is 1/3, the lack, too.
        paper = ("cut", 0, 0, (1, 3), ("cut", 0, 0, ZERO, (), ()), ("cut", 0, 0, (2, 3), (), ()))
        self.assertIs(lets_even(LINE, "corner", (1, 3), paper), True)
        self.assertEqual(told_of(LINE, "corner", (33, 100), paper), ((0, 1), "over"))
        self.assertEqual(told_of((((2, 3),), ((2, 3),)), "corner", (1, 2), ("cut", 0, 0, (2, 3), (), ())), ((0,), "lack"))
        # Over ahead of lack where both pass.
        self.assertEqual(told_of(LINE, "corner", ZERO, ()), ((), "over"))


class FaultTest(unittest.TestCase):
    def test_any_plain_thing_at_the_root(self):
        for points in SETS:
            for family in FAMILIES:
                for number in (ONE, HALF, ZERO, (-1, 1), TWO):
                    for thing in OTHER_THINGS + NODES + (deep(39),):
                        fault = fault_plainly(points, family, number, thing)
                        self.assertEqual(told_of(points, family, number, thing), fault, (family, thing))

    def test_any_plain_thing_deep_within(self):
        for points in SETS[:5]:
            for family in FAMILIES:
                # Of more sides than one any cell passes, so that the papers stay small.
                number = unevenness(points, family) if len(points[0]) == 1 else ONE
                paper = other_paper(points, family, number, 9, wild=3)
                paths = paths_of(paper)
                for path in paths[::max(1, len(paths) // 5)]:
                    for thing in OTHER_THINGS + NODES:
                        broken = with_node(paper, path, thing)
                        fault = fault_plainly(points, family, number, broken)
                        self.assertEqual(told_of(points, family, number, broken), fault, (family, path, thing))

    def test_a_part_of_a_node_broken(self):
        for points, number in ((LINE, unevenness(LINE, "round")), (PLANE, ONE)):
            paper = other_paper(points, "round", number, 2, wild=3)
            for path in paths_of(paper):
                node = node_at(paper, path)
                for place in range(len(node)):
                    for thing in (None, True, [], 1, 7, "ways", "cut", (1, 1), (1, 2), list(node)):
                        broken = with_node(paper, path, node[:place] + (thing,) + node[place + 1:])
                        fault = fault_plainly(points, "round", number, broken)
                        self.assertEqual(told_of(points, "round", number, broken), fault)
                broken = with_node(paper, path, list(node))
                self.assertEqual(told_of(points, "round", number, broken), (path, "shape"))

    def test_p_ahead_of_q_and_a_node_ahead_of_both(self):
        for first, second in product((None, ("ways", 0, (), ()), ("cut", 0, 0, TWO, (), ())), repeat=2):
            word = {None: "shape"}.get(first, first and ("ways" if first[0] == "ways" else "cut"))
            thing = ("cut", 0, 0, HALF, first, second)
            self.assertEqual(told_of(LINE, "corner", ONE, thing), ((0,), word))
            outer = ("cut", 0, 0, TWO, first, second)
            self.assertEqual(told_of(LINE, "corner", ONE, outer), ((), "cut"))
            later = ("cut", 0, 0, HALF, (), ("cut", 0, 0, (3, 4), first, second))
            self.assertEqual(told_of(LINE, "corner", ONE, later), ((1, 0), word))
            last = ("cut", 0, 0, HALF, (), ("cut", 0, 0, (3, 4), (), second))
            word = {None: "shape"}.get(second, second and ("ways" if second[0] == "ways" else "cut"))
            self.assertEqual(told_of(LINE, "corner", ONE, last), ((1, 1), word))

    def test_which_by_corner(self):
        thing = ("cut", 0, 1, HALF, (), ())
        self.assertEqual(told_of(LINE, "corner", ONE, thing), ((), "shape"))
        self.assertIs(lets_even(LINE, "inner", ONE, thing), True)
        self.assertEqual(told_of(LINE, "round", ONE, thing), ((0,), "word"))

    def test_cuts_at_and_beyond_the_ends(self):
        for family in FAMILIES:
            for at in ((-1, 1), ONE, TWO, (-3, 2)):
                self.assertEqual(told_of(LINE, family, ONE, ("cut", 0, 0, at, None, None)), ((), "cut"))
            for at in (HALF, (3, 4), ONE):
                thing = ("cut", 0, 0, HALF, ("cut", 0, 0, at, None, None), ())
                self.assertEqual(told_of(LINE, family, ONE, thing), ((0,), "cut"))
            for at in (HALF, (1, 4), (-1, 1), ONE):
                thing = ("cut", 0, 0, HALF, other_paper(LINE, family, TWO, 1, wild=0), ("cut", 0, 0, at, None, None))
                self.assertEqual(told_of(LINE, family, ONE, thing), ((1,), "cut"))

    def test_cuts_of_other_ranges_go_on(self):
        thing = ("cut", 0, 0, HALF, ("cut", 0, 1, (3, 4), (), ()), ("cut", 0, 1, (1, 4), (), ()))
        self.assertIs(lets_even(LINE, "inner", ONE, thing), True)
        thing = ("cut", 0, 0, HALF, ("cut", 1, 0, (3, 4), (), ()), ("cut", 1, 0, (1, 4), (), ()))
        self.assertIs(lets_even(PLANE, "corner", ONE, thing), True)

    def test_ways(self):
        thing = ("ways", 0, (), ())
        self.assertEqual(told_of(LINE, "corner", ONE, thing), ((), "ways"))
        self.assertEqual(told_of(LINE, "inner", ONE, thing), ((), "ways"))
        self.assertEqual(told_of(LINE, "round", ONE, ("ways", 0, thing, ())), ((0,), "ways"))
        self.assertEqual(told_of(LINE, "round", ONE, ("ways", 0, (), thing)), ((1,), "ways"))
        self.assertEqual(told_of(PLANE, "round", ONE, thing), ((0,), "word"))
        both = ("ways", 1, thing, thing)
        self.assertIs(lets_even(PLANE, "round", ONE, both), True)
        self.assertEqual(told_of(PLANE, "round", ONE, ("ways", 1, thing, ())), ((1,), "word"))

    def test_the_words_are_from_and_round(self):
        # All boxes between 0 and 1/2 are void by "from" and whole by "round".
        cut = ("cut", 0, 0, HALF, (), ("cut", 0, 1, HALF, (), ()))
        paper = ("ways", 0, ("cut", 0, 0, HALF, None, None), ())
        self.assertEqual(told_of(LINE, "round", ONE, paper), ((0, 0), "shape"))
        for number in (ONE, HALF, (1, 3)):
            thing = ("ways", 0, cut, cut)
            self.assertEqual(told_of(LINE, "round", number, thing), fault_plainly(LINE, "round", number, thing))

    def chain(self, many, leaf, way):
        """Cut so many times, one cut within another, always on one way."""
        paper = leaf
        for k in range(many, 0, -1):
            at = (1, 2 ** k) if way == 0 else (2 ** k - 1, 2 ** k)
            paper = ("cut", 0, 0, at) + ((paper, ()) if way == 0 else ((), paper))
        return paper

    def test_deep(self):
        for way in range(2):
            for family in ("corner", "inner"):
                self.assertIs(lets_even(LINE, family, ONE, self.chain(36, (), way)), True)
                first = (0,) * 37 if way == 0 else (1,) * 36 + (0,)
                self.assertEqual(told_of(LINE, family, ONE, self.chain(37, (), way)), (first, "deep"))
                self.assertEqual(told_of(LINE, family, ONE, self.chain(36, None, way)), ((way,) * 36, "shape"))
                self.assertEqual(told_of(LINE, family, ONE, self.chain(37, None, way)), (first, "deep"))
                self.assertEqual(told_of(LINE, family, ZERO, self.chain(37, (), way))[1], "deep" if way == 0 else "over")

    def test_the_refusal(self):
        with self.assertRaises(NoPaper) as caught:
            lets_even(LINE, "corner", ONE, ("cut", 0, 0, HALF, (), []))
        self.assertIsInstance(caught.exception, EvenError)
        self.assertEqual((caught.exception.path, caught.exception.word), ((1,), "shape"))
        self.assertIs(type(caught.exception.path), tuple)

    def test_sixty_figures(self):
        at = (10 ** 58 + 1, 10 ** 59)
        self.assertIs(lets_even(LINE, "corner", ONE, ("cut", 0, 0, at, (), ())), True)
        number = small(Fraction(2, 3) + Fraction(1, 10 ** 58))
        paper = ("cut", 0, 0, (1, 3), (), ("cut", 0, 0, (2, 3), (), ()))
        for tiny in (0, Fraction(1, 3 * 10 ** 58), Fraction(-1, 3 * 10 ** 58)):
            lower = small(Fraction(2, 3) + tiny)
            self.assertEqual(told_of(LINE, "corner", lower, paper), fault_plainly(LINE, "corner", lower, paper))
        self.assertEqual(told_of(LINE, "corner", number, paper), fault_plainly(LINE, "corner", number, paper))


if __name__ == "__main__":
    unittest.main()
