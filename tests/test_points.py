"""Points: points 3 and 13."""

import unittest

from evenpoints.points import is_point, is_points, numbers_at, sides_of
from things import NUMBERS, OTHER_THINGS, deep, scattered

P2 = ((0, 1), (1, 2))


class IsPointTest(unittest.TestCase):
    def test_points(self):
        for s in range(1, 5):
            for x in NUMBERS:
                self.assertIs(is_point(s, (x,) * s), True)

    def test_one_side_more_or_fewer(self):
        for s in range(1, 5):
            for many in range(0, 7):
                self.assertIs(is_point(s, ((1, 2),) * many), many == s)

    def test_ends(self):
        for x, right in (((0, 1), True), ((1, 1), False), ((-1, 1), False), ((-1, 9), False),
                         ((9, 8), False), ((2, 1), False), ((8, 9), True)):
            self.assertIs(is_point(1, (x,)), right, x)
            self.assertIs(is_point(2, ((0, 1), x)), right, x)
            self.assertIs(is_point(2, (x, (0, 1))), right, x)

    def test_other_things(self):
        for s in range(1, 5):
            for thing in OTHER_THINGS:
                self.assertIs(is_point(s, thing), False, thing)
                self.assertIs(is_point(s, ((1, 2),) * (s - 1) + (thing,)), False, thing)
                self.assertIs(is_point(s, (thing,) + ((1, 2),) * (s - 1)), False, thing)
            self.assertIs(is_point(s, deep(40)), False)
            self.assertIs(is_point(s, ((0, 1),) * 6000), False)

    def test_lists(self):
        self.assertIs(is_point(2, list(P2)), False)
        self.assertIs(is_point(2, ((0, 1), [1, 2])), False)
        self.assertIs(is_point(2, ([0, 1], (1, 2))), False)
        self.assertIs(is_point(1, ((False, 1),)), False)
        self.assertIs(is_point(1, ((0, True),)), False)
        self.assertIs(is_point(1, ((2, 4),)), False)


class IsPointsTest(unittest.TestCase):
    def test_how_many(self):
        for s in range(1, 5):
            for many in (0, 1, 2, 39, 40, 41, 80):
                self.assertIs(is_points(s, (((1, 2),) * s,) * many), 1 <= many <= 40)

    def test_any_order_and_alike(self):
        self.assertIs(is_points(1, (((1, 2),), ((0, 1),), ((1, 2),))), True)
        for s in range(1, 5):
            self.assertIs(is_points(s, scattered(40, s)), True)

    def test_as_many_sides(self):
        self.assertIs(is_points(2, (P2, P2)), True)
        self.assertIs(is_points(2, (P2, ((0, 1),))), False)
        self.assertIs(is_points(1, (P2, P2)), False)
        self.assertIs(is_points(3, (P2, P2)), False)

    def test_other_things(self):
        for s in range(1, 5):
            right = ((1, 2),) * s
            for thing in OTHER_THINGS:
                self.assertIs(is_points(s, thing), False, thing)
                self.assertIs(is_points(s, (right, thing)), False, thing)
                self.assertIs(is_points(s, (thing, right)), False, thing)
            self.assertIs(is_points(s, deep(40)), False)
        self.assertIs(is_points(2, [P2, P2]), False)
        self.assertIs(is_points(2, (P2, list(P2))), False)
        self.assertIs(is_points(2, (P2, ([0, 1], (1, 2)))), False)
        self.assertIs(is_points(2, P2), False)
        self.assertIs(is_points(1, (((1, 1),),)), False)
        self.assertIs(is_points(1, (((-1, 2),),)), False)


class NumbersTest(unittest.TestCase):
    def test_sides(self):
        for s in range(1, 5):
            for many in (1, 2, 40):
                self.assertEqual(sides_of(scattered(many, s)), s)

    def test_numbers(self):
        points = (((2, 3), (0, 1)), ((1, 2), (0, 1)), ((2, 3), (1, 9)), ((0, 1), (0, 1)))
        self.assertEqual(numbers_at(points, 0), ((0, 1), (1, 2), (2, 3)))
        self.assertEqual(numbers_at(points, 1), ((0, 1), (1, 9)))

    def test_one_point(self):
        self.assertEqual(numbers_at((((2, 3), (0, 1)),), 0), ((2, 3),))


if __name__ == "__main__":
    unittest.main()
