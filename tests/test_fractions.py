"""Fractions: points 3, 10 and 11."""

import unittest
from fractions import Fraction
from math import floor, gcd

from evenpoints.errors import Nought
from evenpoints.fractions import (
    floor_of, fraction, in_size, is_below, is_fraction, less, over, plus, times, wrapped,
)
from things import OTHER_THINGS, big, deep, small

SOME = [small(Fraction(n, d)) for n in range(-7, 8) for d in range(1, 6)]
LONG = [
    small(Fraction(10 ** 59 + 9, 10 ** 59 + 7)),
    small(Fraction(-(10 ** 59 + 33), 7 * 10 ** 58 + 3)),
    small(Fraction(3 ** 125, 2 ** 199)),
    small(Fraction(-1, 10 ** 59)),
]


class IsFractionTest(unittest.TestCase):
    def test_fractions(self):
        for thing in SOME + LONG + [(0, 1), (1, 1), (-1, 1), (5, 1), (-2, 3), (10 ** 59, 1)]:
            self.assertIs(is_fraction(thing), True, thing)

    def test_other_things(self):
        for thing in OTHER_THINGS:
            self.assertIs(is_fraction(thing), False, thing)

    def test_kinds_are_looked_at_within(self):
        for thing in ((True, 2), (3, True), (0, [1]), ([0], 1), ("1", 2), (1, "2"), (None, 1), ((1,), 2)):
            self.assertIs(is_fraction(thing), False, thing)
        for levels in (1, 2, 39, 40):
            self.assertIs(is_fraction(deep(levels)), False)
            self.assertIs(is_fraction((deep(levels - 1), 1)), False)
            self.assertIs(is_fraction((1, deep(levels - 1))), False)

    def test_nought_is_only_one(self):
        self.assertIs(is_fraction((0, 1)), True)
        for bottom in (0, 2, -1, 7):
            self.assertIs(is_fraction((0, bottom)), False)

    def test_lowest_terms(self):
        for top in range(-12, 13):
            for bottom in range(-12, 13):
                right = bottom >= 1 and gcd(top, bottom) == 1
                self.assertIs(is_fraction((top, bottom)), right, (top, bottom))

    def test_lists_of_parts(self):
        for one in SOME:
            self.assertIs(is_fraction(list(one)), False)

    def test_many_things(self):
        self.assertIs(is_fraction((1, 2) * 10000), False)
        self.assertIs(is_fraction([1, 2] * 10000), False)


class FractionTest(unittest.TestCase):
    def test_all_signs(self):
        for top in range(-30, 31):
            for bottom in range(-12, 13):
                if bottom != 0:
                    told = fraction(top, bottom)
                    self.assertEqual(told, small(Fraction(top, bottom)))
                    self.assertIs(is_fraction(told), True)

    def test_examples(self):
        self.assertEqual(fraction(6, 4), (3, 2))
        self.assertEqual(fraction(6, -4), (-3, 2))
        self.assertEqual(fraction(-6, 4), (-3, 2))
        self.assertEqual(fraction(-6, -4), (3, 2))
        self.assertEqual(fraction(0, -9), (0, 1))
        self.assertEqual(fraction(0, 9), (0, 1))
        self.assertEqual(fraction(10 ** 59, -(10 ** 58)), (-10, 1))

    def test_by_nought(self):
        for top in (-3, 0, 1, 10 ** 59):
            with self.assertRaises(Nought) as caught:
                fraction(top, 0)
            self.assertEqual(caught.exception.word, "bottom")


class SumsTest(unittest.TestCase):
    def check(self, one, other):
        a, b = big(one), big(other)
        self.assertEqual(plus(one, other), small(a + b))
        self.assertEqual(less(one, other), small(a - b))
        self.assertEqual(times(one, other), small(a * b))
        self.assertIs(is_below(one, other), a < b)
        if b != 0:
            self.assertEqual(over(one, other), small(a / b))

    def test_small_ones(self):
        for one in SOME:
            for other in SOME:
                self.check(one, other)

    def test_sixty_figures_and_what_comes_of_them(self):
        rows = LONG + [plus(one, other) for one in LONG for other in LONG]
        rows += [times(one, other) for one in LONG for other in LONG]
        for one in rows:
            self.assertIs(is_fraction(one), True)
            for other in rows:
                self.check(one, other)

    def test_over_by_nought(self):
        for one in ((0, 1), (1, 2), (-5, 1), LONG[0]):
            with self.assertRaises(Nought) as caught:
                over(one, (0, 1))
            self.assertEqual(caught.exception.word, "quotient")

    def test_over_by_one_below_nought(self):
        self.assertEqual(over((1, 2), (-3, 4)), (-2, 3))
        self.assertEqual(over((0, 1), (-3, 4)), (0, 1))

    def test_below_tells_a_truth(self):
        self.assertIs(is_below((1, 3), (1, 2)), True)
        self.assertIs(is_below((1, 2), (1, 2)), False)
        self.assertIs(is_below((1, 2), (1, 3)), False)
        self.assertIs(is_below((-1, 2), (-1, 3)), True)


class FloorTest(unittest.TestCase):
    def test_floor_and_wrapped(self):
        for one in SOME + LONG:
            low = floor_of(one)
            self.assertEqual(low, floor(big(one)))
            self.assertIs(type(low), int)
            self.assertEqual(wrapped(one), small(big(one) - low))
            self.assertIs(is_fraction(wrapped(one)), True)

    def test_examples(self):
        self.assertEqual(floor_of((-1, 2)), -1)
        self.assertEqual(floor_of((-4, 1)), -4)
        self.assertEqual(floor_of((7, 2)), 3)
        self.assertEqual(wrapped((-1, 3)), (2, 3))
        self.assertEqual(wrapped((-4, 1)), (0, 1))
        self.assertEqual(wrapped((4, 1)), (0, 1))
        self.assertEqual(wrapped((7, 2)), (1, 2))
        self.assertEqual(wrapped((0, 1)), (0, 1))


class InSizeTest(unittest.TestCase):
    def test_none(self):
        self.assertEqual(in_size([]), ())
        self.assertEqual(in_size(()), ())

    def test_alike_ones(self):
        self.assertEqual(in_size([(1, 2), (1, 3), (1, 2), (1, 3)]), ((1, 3), (1, 2)))
        self.assertEqual(in_size(((0, 1),) * 5), ((0, 1),))

    def test_list_and_tuple(self):
        right = tuple(small(value) for value in sorted({big(one) for one in SOME + LONG}))
        self.assertEqual(in_size(SOME + LONG), right)
        self.assertEqual(in_size(tuple(reversed(SOME + LONG))), right)
        for one, other in zip(right, right[1:]):
            self.assertTrue(is_below(one, other))

    def test_near_ones(self):
        near = [(10 ** 12 - k, 10 ** 12 - k + 1) for k in (5, 3, 1, 4, 2)]
        near += [(-1, 10 ** 12), (-1, 10 ** 12 - 1), (1, 10 ** 12), (1, 10 ** 12 - 1)]
        self.assertEqual([big(one) for one in in_size(near)], sorted(big(one) for one in near))

    def test_what_is_handed_in_stays(self):
        some = [(1, 2), (1, 3), (1, 2)]
        in_size(some)
        self.assertEqual(some, [(1, 2), (1, 3), (1, 2)])


if __name__ == "__main__":
    unittest.main()
