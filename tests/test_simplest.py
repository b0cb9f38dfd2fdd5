"""The simplest fraction between two: point 12."""

import unittest
from fractions import Fraction

from evenpoints.errors import NoRoom
from evenpoints.fractions import is_fraction
from evenpoints.simplest import simplest
from things import big, small


def walked(low, high):
    """Find the simplest one by a walk over second numbers."""
    bottom = 1
    while True:
        first = low.numerator * bottom // low.denominator + 1
        found = []
        while Fraction(first, bottom) < high:
            found.append(Fraction(first, bottom))
            first += 1
        if found:
            return min(found, key=abs)
        bottom += 1


class SimplestTest(unittest.TestCase):
    def test_by_a_walk(self):
        values = sorted({Fraction(n, d) for d in range(1, 8) for n in range(-2 * d - 1, 2 * d + 2)})
        for low in values:
            for high in values:
                if low < high:
                    told = simplest(small(low), small(high))
                    self.assertIs(is_fraction(told), True)
                    self.assertEqual(big(told), walked(low, high), (low, high))

    def test_whole_ones_are_nearest_to_nought(self):
        self.assertEqual(simplest((5, 2), (91, 10)), (3, 1))
        self.assertEqual(simplest((-91, 10), (-5, 2)), (-3, 1))
        self.assertEqual(simplest((3, 1), (9, 1)), (4, 1))
        self.assertEqual(simplest((-9, 1), (-3, 1)), (-4, 1))
        self.assertEqual(simplest((0, 1), (9, 1)), (1, 1))
        self.assertEqual(simplest((-9, 1), (0, 1)), (-1, 1))

    def test_both_sides_of_nought(self):
        self.assertEqual(simplest((-1, 1), (1, 1)), (0, 1))
        self.assertEqual(simplest((-1, 10 ** 12), (1, 10 ** 11)), (0, 1))
        self.assertEqual(simplest((-100, 1), (1, 7)), (0, 1))

    def test_beside_whole_numbers(self):
        self.assertEqual(simplest((0, 1), (1, 1)), (1, 2))
        self.assertEqual(simplest((1, 1), (2, 1)), (3, 2))
        self.assertEqual(simplest((-2, 1), (-1, 1)), (-3, 2))
        self.assertEqual(simplest((0, 1), (1, 7)), (1, 8))
        self.assertEqual(simplest((-1, 7), (0, 1)), (-1, 8))
        self.assertEqual(simplest((6, 7), (1, 1)), (7, 8))
        self.assertEqual(simplest((1, 1), (8, 7)), (9, 8))

    def test_long_ones_without_a_walk(self):
        self.assertEqual(simplest((0, 1), (1, 10 ** 12 - 1)), (1, 10 ** 12))
        self.assertEqual(
            simplest((10 ** 12 - 2, 10 ** 12 - 1), (1, 1)), (10 ** 12 - 1, 10 ** 12))
        low, high = Fraction(314159265358, 10 ** 11), Fraction(314159265359, 10 ** 11)
        told = big(simplest(small(low), small(high)))
        self.assertTrue(low < told < high)
        self.assertEqual(told, low_bottom(low, high))

    def test_neighbours_tell_their_mediant(self):
        low, high = Fraction(0), Fraction(1)
        for step in range(55):
            middle = Fraction(low.numerator + high.numerator, low.denominator + high.denominator)
            self.assertEqual(big(simplest(small(low), small(high))), middle)
            self.assertEqual(big(simplest(small(-high), small(-low))), -middle)
            low, high = (middle, high) if step % 2 else (low, middle)

    def test_no_room(self):
        for one, other in (((1, 2), (1, 2)), ((0, 1), (0, 1)), ((1, 2), (1, 3)), ((1, 3), (-1, 3)), ((5, 1), (4, 1))):
            with self.assertRaises(NoRoom) as caught:
                simplest(one, other)
            self.assertEqual(caught.exception.word, "between")


def low_bottom(low, high):
    """Find the simplest one by going down the tree of mediants."""
    left, right = (0, 1), (1, 0)
    while True:
        top, bottom = left[0] + right[0], left[1] + right[1]
        if Fraction(top, bottom) <= low:
            left = (top, bottom)
        elif Fraction(top, bottom) >= high:
            right = (top, bottom)
        else:
            return Fraction(top, bottom)


if __name__ == "__main__":
    unittest.main()
