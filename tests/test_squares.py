"""Square misses: point 28."""

import unittest
from fractions import Fraction
from itertools import product

from evenpoints.fractions import is_fraction
from evenpoints.squares import square_miss, square_without
from things import big, scattered, small

ZERO, HALF = (0, 1), (1, 2)
SETS = (
    (((0, 1),),), ((HALF,),), (((9998, 9999),),), (((0, 1), (0, 1)),), (((0, 1),) * 4,), (((1, 3), (3, 4), HALF, (1, 9)),),
    (((0, 1),),) * 3, ((HALF, (1, 3)),) * 5, (((0, 1), HALF), (HALF, (0, 1))),
    scattered(2, 1), scattered(5, 1), scattered(16, 1, bottom=9973), scattered(3, 2), scattered(8, 2, bottom=9973),
    scattered(2, 3), scattered(5, 3, bottom=9), scattered(3, 4, bottom=9), scattered(16, 2, bottom=5),
)


def by_the_sum(points):
    """Add up what the document's sum says."""
    many, s = len(points), len(points[0])
    total = Fraction(1, 3 ** s)
    for point in points:
        room = Fraction(1)
        for x in point:
            room *= 1 - big(x) * big(x)
        total -= Fraction(2, many * 2 ** s) * room
    for one, other in product(points, repeat=2):
        room = Fraction(1)
        for x, y in zip(one, other):
            room *= 1 - max(big(x), big(y))
        total += Fraction(1, many * many) * room
    return total


def by_the_boxes(points):
    """Add up the mean over each box that the numbers part: there as many lie in all corner boxes."""
    many, s = len(points), len(points[0])
    sides = []
    for side in range(s):
        ends = sorted({Fraction(0), Fraction(1)} | {big(point[side]) for point in points})
        sides.append(list(zip(ends, ends[1:])))
    total = Fraction(0)
    for chosen in product(*sides):
        share = Fraction(sum(all(big(x) <= lo for x, (lo, hi) in zip(point, chosen)) for point in points), many)
        plain = first = second = Fraction(1)
        for lo, hi in chosen:
            plain *= hi - lo
            first *= (hi ** 2 - lo ** 2) / 2
            second *= (hi ** 3 - lo ** 3) / 3
        total += share * share * plain - 2 * share * first + second
    return total


class SquareMissTest(unittest.TestCase):
    def test_examples(self):
        self.assertEqual(square_miss((((0, 1),),)), (1, 3))
        self.assertEqual(square_miss(((HALF,),)), (1, 12))
        self.assertEqual(square_miss((((0, 1), (0, 1)),)), (11, 18))
        self.assertEqual(square_miss((((0, 1),),) * 7), (1, 3))

    def test_by_the_sum_and_by_the_boxes(self):
        for points in SETS:
            told = square_miss(points)
            self.assertIs(is_fraction(told), True)
            self.assertEqual(big(told), by_the_sum(points), points)
            self.assertEqual(big(told), by_the_boxes(points), points)

    def test_alike_points_are_as_one(self):
        for point in (((1, 3),), (HALF, ZERO), ((1, 9), (2, 9), (8, 9), (1, 2))):
            for many in (2, 5, 16):
                self.assertEqual(square_miss((point,) * many), square_miss((point,)))

    def test_the_order_is_all_the_same(self):
        points = scattered(7, 2)
        self.assertEqual(square_miss(points), square_miss(points[::-1]))


class WithoutTest(unittest.TestCase):
    def test_two_points_in_order(self):
        one, other = ((0, 1),), (HALF,)
        self.assertEqual(square_without((one, other)), ((1, 12), (1, 3)))
        self.assertEqual(square_without((other, one)), ((1, 3), (1, 12)))

    def test_each_point_left_out(self):
        for points in (scattered(16, 1, bottom=9973), scattered(16, 2, bottom=101), scattered(6, 4, bottom=9973), SETS[6]):
            told = square_without(points)
            self.assertIs(type(told), tuple)
            right = [by_the_sum(points[:k] + points[k + 1:]) for k in range(len(points))]
            self.assertEqual(told, tuple(small(one) for one in right))

    def test_sixteen_points_of_four_sides(self):
        points = scattered(16, 4, bottom=9973)
        told = square_without(points)
        self.assertEqual(len(told), 16)
        for k in (0, 7, 15):
            self.assertEqual(big(told[k]), by_the_sum(points[:k] + points[k + 1:]))


if __name__ == "__main__":
    unittest.main()
