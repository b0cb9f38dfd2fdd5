"""Points moved: point 14."""

import unittest
from fractions import Fraction
from itertools import combinations, permutations

from evenpoints.errors import TooMany
from evenpoints.looks import unevenness
from evenpoints.moves import beside, exchanged, mirrored, shadow, shifted
from evenpoints.points import is_points
from things import big, scattered, small

STEPS = [small(Fraction(n, d)) for n in range(-7, 8) for d in (1, 3, 4)] + [(10 ** 12 - 1, 10 ** 11 + 3)]
POINTS = (((0, 1), (1, 2), (2, 3)), ((1, 4), (0, 1), (0, 1)), ((1, 4), (9, 10), (1, 7)))


class ShiftedTest(unittest.TestCase):
    def test_by_the_words(self):
        for k in range(len(STEPS) - 2):
            by = tuple(STEPS[k:k + 3])
            told = shifted(POINTS, by)
            right = tuple(tuple(small((big(x) + big(step)) % 1) for x, step in zip(point, by)) for point in POINTS)
            self.assertEqual(told, right)
            self.assertIs(is_points(3, told), True)

    def test_whole_ones_change_nothing(self):
        for by in (((0, 1),) * 3, ((1, 1), (-1, 1), (5, 1)), ((-4, 1),) * 3):
            self.assertEqual(shifted(POINTS, by), POINTS)

    def test_contraries_of_what_stands_there(self):
        for point in POINTS:
            by = tuple((-x[0], x[1]) for x in point)
            told = shifted(POINTS, by)
            self.assertEqual(told[POINTS.index(point)], ((0, 1),) * 3)
            self.assertEqual(shifted(told, point), POINTS)

    def test_example(self):
        self.assertEqual(shifted((((1, 2),), ((0, 1),)), ((-3, 4),)), (((3, 4),), ((1, 4),)))


class MirroredTest(unittest.TestCase):
    def test_at_no_side(self):
        self.assertEqual(mirrored(POINTS, ()), POINTS)

    def test_at_all(self):
        right = (((0, 1), (1, 2), (1, 3)), ((3, 4), (0, 1), (0, 1)), ((3, 4), (1, 10), (6, 7)))
        self.assertEqual(mirrored(POINTS, (0, 1, 2)), right)
        self.assertEqual(mirrored(right, (0, 1, 2)), POINTS)

    def test_at_some(self):
        for many in range(4):
            for sides in combinations(range(3), many):
                told = mirrored(POINTS, sides)
                for point, new in zip(POINTS, told):
                    for side in range(3):
                        value = -big(point[side]) % 1 if side in sides else big(point[side])
                        self.assertEqual(new[side], small(value))
                self.assertIs(is_points(3, told), True)


class ExchangedTest(unittest.TestCase):
    def test_all_orders_and_back(self):
        for s in range(1, 5):
            points = scattered(6, s)
            for order in permutations(range(s)):
                told = exchanged(points, order)
                for point, new in zip(points, told):
                    for k in range(s):
                        self.assertEqual(new[k], point[order[k]])
                back = tuple(order.index(k) for k in range(s))
                self.assertEqual(exchanged(told, back), points)

    def test_example(self):
        points = (((0, 1), (1, 2), (2, 3)),)
        self.assertEqual(exchanged(points, (1, 2, 0)), (((1, 2), (2, 3), (0, 1)),))


class ShadowTest(unittest.TestCase):
    def test_all_shadows(self):
        for s in range(1, 5):
            points = scattered(6, s)
            for many in range(1, s + 1):
                for sides in combinations(range(s), many):
                    told = shadow(points, sides)
                    self.assertEqual(told, tuple(tuple(point[side] for side in sides) for point in points))
                    self.assertIs(is_points(many, told), True)

    def test_example(self):
        self.assertEqual(shadow(POINTS, (0, 2)), (((0, 1), (2, 3)), ((1, 4), (0, 1)), ((1, 4), (1, 7))))


class BesideTest(unittest.TestCase):
    def test_one_then_the_other(self):
        one, other = scattered(3, 2), scattered(4, 2, seed=9)
        self.assertEqual(beside(one, other), one + other)
        self.assertEqual(beside(one, one), one + one)

    def test_forty_in_all(self):
        for many in (1, 20, 39):
            told = beside(scattered(many, 2), scattered(40 - many, 2, seed=5))
            self.assertIs(is_points(2, told), True)
            self.assertEqual(len(told), 40)

    def test_forty_one(self):
        for one, other in ((1, 40), (40, 1), (20, 21), (40, 40)):
            with self.assertRaises(TooMany) as caught:
                beside(scattered(one, 2), scattered(other, 2))
            self.assertEqual(caught.exception.word, "points")


class UnevennessTest(unittest.TestCase):
    def test_round_stays(self):
        for points, by in ((scattered(6, 1), ((-5, 7),)), (scattered(3, 2), ((1, 3), (2, 7)))):
            sides = tuple(range(len(points[0])))
            right = unevenness(points, "round")
            self.assertEqual(unevenness(shifted(points, by), "round"), right)
            self.assertEqual(unevenness(mirrored(points, sides), "round"), right)
            self.assertEqual(unevenness(mirrored(points, sides[:1]), "round"), right)

    def test_exchanged_and_shadow(self):
        points = scattered(4, 2)
        for family in ("corner", "inner", "round"):
            right = unevenness(points, family)
            self.assertEqual(unevenness(exchanged(points, (1, 0)), family), right)
            for side in (0, 1):
                self.assertLessEqual(big(unevenness(shadow(points, (side,)), family)), big(right))

    def test_beside(self):
        one, other = scattered(3, 2), scattered(5, 2, seed=4)
        for family in ("corner", "inner"):
            parts = 3 * big(unevenness(one, family)) + 5 * big(unevenness(other, family))
            self.assertLessEqual(big(unevenness(beside(one, other), family)), parts / 8)


if __name__ == "__main__":
    unittest.main()
