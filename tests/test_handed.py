"""What is handed in stays as it was, and what is told is the asker's own: point 2."""

import unittest
from copy import deepcopy

from evenpoints.boxes import is_box, is_side
from evenpoints.fractions import in_size, is_fraction
from evenpoints.points import is_point, is_points

LISTS = (
    [0, 1], ([0, 1],), [[0, 1], [1, 2]], ([[0, 1]],), (([0, 1],),), ["to", (1, 2)], ("to", [1, 2]),
    (["to", [1, 2]],), [["from", [0, 1], [1, 2]]], ("round", [0, 1], (1, 1)), [[[[]]]], ([], []),
)


class HandedTest(unittest.TestCase):
    def test_lists_that_are_asked_stay(self):
        for thing in LISTS:
            kept = deepcopy(thing)
            self.assertIs(is_fraction(thing), False)
            self.assertIs(is_side(thing), False)
            for s in range(1, 5):
                self.assertIs(is_point(s, thing), False)
                self.assertIs(is_points(s, thing), False)
                self.assertIs(is_box(s, thing), False)
            self.assertEqual(thing, kept)

    def test_a_list_changed_behind_the_call_changes_nothing(self):
        some = [(1, 2), (0, 1)]
        told = in_size(some)
        some.append((1, 3))
        some[0] = (5, 1)
        self.assertEqual(told, ((0, 1), (1, 2)))
        self.assertEqual(in_size(some), ((0, 1), (1, 3), (5, 1)))


if __name__ == "__main__":
    unittest.main()
