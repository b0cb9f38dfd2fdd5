"""Figures turned about and turned back: points 40 and 41."""

import unittest
from fractions import Fraction
from random import Random

from evenpoints.figures import turned, turned_back
from evenpoints.fractions import is_fraction
from things import big, small, turned_plainly

BASES = range(2, 17)


def exchanges_of(base):
    """Tell some exchanges of a base, the plain one first."""
    plain = tuple(range(base))
    mixed = list(plain[1:])
    Random(base).shuffle(mixed)
    return (plain, (0,) + plain[:0:-1], (0,) + tuple(mixed))


def numbers_for(base):
    """Tell numbers at the edges: powers of the base, one less, one more, the greatest."""
    powers = [base ** k for k in range(31) if base ** k <= 10 ** 9]
    return sorted({0, 1, 2, 10 ** 9, 10 ** 9 - 1, 123456789} | set(powers) | {k - 1 for k in powers} | {k + 1 for k in powers})


class TurnedTest(unittest.TestCase):
    def test_examples(self):
        self.assertEqual([turned(2, (0, 1), n) for n in range(6)], [(0, 1), (1, 2), (1, 4), (3, 4), (1, 8), (5, 8)])
        self.assertEqual([turned(3, (0, 2, 1), n) for n in range(5)], [(0, 1), (2, 3), (1, 3), (2, 9), (8, 9)])
        self.assertEqual(turned(10, (0, 1, 2, 3, 4, 5, 6, 7, 8, 9), 1250), (521, 10000))

    def test_by_the_words(self):
        for base in BASES:
            for exchange in exchanges_of(base):
                for n in list(range(300)) + numbers_for(base):
                    told = turned(base, exchange, n)
                    self.assertIs(is_fraction(told), True)
                    self.assertEqual(big(told), turned_plainly(base, exchange, n))
                    self.assertTrue(0 <= big(told) < 1)

    def test_unlike_for_unlike(self):
        for base in BASES:
            for exchange in exchanges_of(base):
                self.assertEqual(len({turned(base, exchange, n) for n in range(1000)}), 1000)


class TurnedBackTest(unittest.TestCase):
    def test_back_again(self):
        for base in BASES:
            for exchange in exchanges_of(base):
                for n in list(range(300)) + numbers_for(base):
                    self.assertEqual(turned_back(base, exchange, turned(base, exchange, n)), n)

    def test_each_fraction_of_the_base(self):
        for base in BASES:
            for exchange in exchanges_of(base):
                bottom = base ** 3
                told = [turned_back(base, exchange, small(Fraction(top, bottom))) for top in range(bottom)]
                self.assertEqual(sorted(told), list(range(bottom)))
                for top in range(0, bottom, 7):
                    self.assertEqual(turned_plainly(base, exchange, told[top]), Fraction(top, bottom))

    def test_none(self):
        for base in BASES:
            exchange = exchanges_of(base)[2]
            for bottom in range(1, 200):
                right = any(base ** k % bottom == 0 for k in range(9))
                for top in range(bottom):
                    x = Fraction(top, bottom)
                    if x.denominator == bottom:
                        self.assertIs(turned_back(base, exchange, small(x)) is None, not right)

    def test_lower_numbers_that_are_no_power(self):
        self.assertEqual(turned_back(12, tuple(range(12)), (1, 8)), 6 * 12 + 1)
        self.assertEqual(turned_back(4, (0, 2, 1, 3), (1, 2)), 1)
        self.assertIsNone(turned_back(6, tuple(range(6)), (1, 10)))
        self.assertIsNone(turned_back(2, (0, 1), (1, 3)))
        self.assertIsNone(turned_back(16, tuple(range(16)), (1, 999999999989)))

    def test_above_the_greatest(self):
        x = (1, 2 ** 39)
        self.assertEqual(turned_back(2, (0, 1), x), 2 ** 38)
        self.assertEqual(turned_back(16, exchanges_of(16)[1], (15, 16 ** 9)), 16 ** 8)
        self.assertEqual(turned_back(10, tuple(range(10)), (999999999999, 10 ** 12)), 999999999999)

    def test_nought(self):
        for base in BASES:
            self.assertEqual(turned_back(base, tuple(range(base)), (0, 1)), 0)


if __name__ == "__main__":
    unittest.main()
