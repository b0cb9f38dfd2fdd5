"""The rest of a side and the corners of a box: points 16 and 17."""

import unittest
from itertools import product

from evenpoints.boxes import is_box, is_of, is_side
from evenpoints.corners import corners_of, rest_of
from things import NUMBERS, all_sides, big, box_size_plainly, inside_plainly, lies_plainly, size_plainly, small

HALF = (1, 2)


class RestTest(unittest.TestCase):
    def test_examples(self):
        self.assertEqual(rest_of(("to", HALF)), ("from", HALF, (1, 1)))
        self.assertEqual(rest_of(("to", (-1, 3))), ("from", (-1, 3), (1, 1)))
        self.assertEqual(rest_of(("from", (1, 4), HALF)), ("round", HALF, (1, 4)))
        self.assertEqual(rest_of(("round", HALF, (1, 4))), ("from", (1, 4), HALF))

    def test_by_the_words(self):
        for side in all_sides():
            rest = rest_of(side)
            self.assertIs(is_side(rest), True)
            self.assertEqual(size_plainly(side) + size_plainly(rest), 1, side)
            for x in NUMBERS:
                self.assertNotEqual(lies_plainly(x, side, "half"), lies_plainly(x, rest, "half"), (x, side))
                self.assertNotEqual(lies_plainly(x, side, "shut"), lies_plainly(x, rest, "open"), (x, side))
                self.assertNotEqual(lies_plainly(x, side, "open"), lies_plainly(x, rest, "shut"), (x, side))


def near(ends):
    """Make numbers at, below and above each end that is one of a point's."""
    values = set()
    for end in ends:
        for value in (big(end) - big((1, 100)), big(end), big(end) + big((1, 100))):
            if 0 <= value < 1:
                values.add(value)
    return [small(value) for value in sorted(values | {big((0, 1)), big((99, 100))})]


class CornersTest(unittest.TestCase):
    def check(self, box):
        corners = corners_of(box)
        self.assertIs(type(corners), tuple)
        self.assertLessEqual(len(corners), 81)
        for row in corners:
            self.assertIs(type(row), tuple)
            k, corner = row
            self.assertIs(type(k), int)
            self.assertIn(k, (1, -1))
            self.assertIs(is_box(len(box), corner), True)
            self.assertIs(is_of("corner", corner), True)
        self.assertEqual(sum(k * box_size_plainly(corner) for k, corner in corners), box_size_plainly(box), box)
        for point in product(*[near(side[1:]) for side in box]):
            many = sum(k * inside_plainly((point,), corner, "half") for k, corner in corners)
            self.assertEqual(many, inside_plainly((point,), box, "half"), (box, point))

    def test_every_side(self):
        for side in all_sides():
            self.check((side,))

    def test_two_sides(self):
        sides = all_sides(((-1, 1), (-1, 2), (0, 1), HALF, (1, 1)))
        for k, side in enumerate(sides):
            for step in (0, 7, 18, 31):
                self.check((side, sides[(k + step) % len(sides)]))

    def test_three_and_four_sides(self):
        a, b, low = (1, 4), (2, 3), (-1, 3)
        words = (("to", a), ("from", a, b), ("round", b, a), ("from", b, a), ("round", a, b), ("round", low, low))
        for k in range(len(words)):
            self.check((words[k], words[(k + 1) % 6], words[(k + 3) % 6]))
        self.check((words[2], words[1], words[0], words[2]))
        self.check((words[2],) * 4)
        self.check((words[5], words[3], words[4], ("to", low)))


if __name__ == "__main__":
    unittest.main()
