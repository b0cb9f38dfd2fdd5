"""Points counted by patches: point 18."""

import unittest
from itertools import product

from evenpoints.errors import TooMany
from evenpoints.patches import counted
from things import big, scattered


def some_cuts(many):
    """Make so many cuts of one side."""
    return tuple((k, 17) for k in range(1, many + 1))


def counted_plainly(points, cuts):
    """Count by the document's words."""
    rows = []
    for patch in product(*[range(len(ends) + 1) for ends in cuts]):
        many = 0
        for point in points:
            here = True
            for x, ends, k in zip(point, cuts, patch):
                low = big(ends[k - 1]) if k else 0
                high = big(ends[k]) if k < len(ends) else 1
                here = here and low <= big(x) < high
            many += here
        rows.append((patch, many))
    return tuple(rows)


class CountedTest(unittest.TestCase):
    def test_without_cuts(self):
        for s in range(1, 5):
            self.assertEqual(counted(scattered(7, s), ((),) * s), (((0,) * s, 7),))

    def test_example(self):
        points = (((0, 1), (1, 2)), ((1, 3), (1, 2)), ((1, 3), (0, 1)), ((2, 3), (9, 10)))
        cuts = (((1, 3), (1, 2)), ((1, 2),))
        right = (((0, 0), 0), ((0, 1), 1), ((1, 0), 1), ((1, 1), 1), ((2, 0), 0), ((2, 1), 1))
        self.assertEqual(counted(points, cuts), right)

    def test_by_the_words(self):
        for s in range(1, 5):
            points = scattered(40, s)
            for many in (0, 1, 2, 4):
                cuts = tuple(some_cuts(many + side % 2) for side in range(s))
                told = counted(points, cuts)
                self.assertEqual(told, counted_plainly(points, cuts))
                self.assertEqual(sum(row[1] for row in told), 40)
                self.assertEqual(list(told), sorted(told))

    def test_cuts_at_the_points_own_numbers(self):
        points = (((1, 17),), ((2, 17),), ((3, 17),), ((3, 17),))
        self.assertEqual(counted(points, (some_cuts(3),)), (((0,), 0), ((1,), 1), ((2,), 1), ((3,), 2)))

    def test_twelve_cuts(self):
        self.assertEqual(len(counted((((1, 2),),), (some_cuts(12),))), 13)

    def test_a_thousand_patches(self):
        for manies in ((9, 9, 9), (9, 9, 9, 0), (7, 4, 4, 4)):
            points = scattered(40, len(manies))
            cuts = tuple(some_cuts(many) for many in manies)
            told = counted(points, cuts)
            self.assertEqual(len(told), 1000)
            self.assertEqual(told, counted_plainly(points, cuts))

    def test_more_are_refused(self):
        for manies in ((12, 6, 10), (9, 9, 10), (12, 12, 12), (12, 12, 12, 12)):
            with self.assertRaises(TooMany) as caught:
                counted(scattered(2, len(manies)), tuple(some_cuts(many) for many in manies))
            self.assertEqual(caught.exception.word, "patches")


if __name__ == "__main__":
    unittest.main()
