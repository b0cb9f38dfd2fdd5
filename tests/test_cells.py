"""Cells: point 30."""

import unittest
from itertools import product

from evenpoints.boxes import inside, size_of
from evenpoints.cells import cell_told
from papers import cell_plainly
from things import big, scattered

GRID = ((-1, 1), (-1, 2), (0, 1), (1, 4), (1, 2), (3, 4), (1, 1))
RANGES = tuple((lo, hi) for lo in GRID for hi in GRID if big(lo) < big(hi))
LINE = tuple(((k, 8) if k % 2 else ((k // 2, 4) if k % 4 else ((k // 4, 2) if k == 4 else (0, 1))),) for k in range(8))


def sides(step=1):
    """Tell every side of a cell whose numbers are in the grid."""
    tos = [("to", (limits,)) for limits in RANGES]
    pairs = [(word, row) for word in ("from", "round") for row in product(RANGES, repeat=2)]
    return (tos + pairs)[::step]


class CellTest(unittest.TestCase):
    def test_one_side_by_the_words(self):
        for points in (LINE, scattered(9, 1), (((1, 2),),) * 3, (((0, 1),),)):
            for side in sides():
                self.assertEqual(cell_told(points, (side,)), cell_plainly(points, (side,)), side)

    def test_more_sides_by_the_words(self):
        for s, step in ((2, 29), (3, 131), (4, 211)):
            points = scattered(7, s, bottom=8)
            for cell in list(product(sides(step), repeat=s))[:1500]:
                self.assertEqual(cell_told(points, cell), cell_plainly(points, cell), cell)

    def test_to(self):
        half = ("to", (((1, 4), (1, 2)),))
        self.assertEqual(cell_told(LINE, (half,)), (3, 1, (1, 4), (1, 2)))
        below = ("to", (((-1, 1), (-1, 2)),))
        self.assertEqual(cell_told(LINE, (below,)), (0, 0, (0, 1), (0, 1)))
        whole = ("to", (((-1, 1), (1, 1)),))
        self.assertEqual(cell_told(LINE, (whole,)), (0, 8, (0, 1), (1, 1)))

    def test_from(self):
        cell = (("from", (((0, 1), (1, 4)), ((1, 2), (3, 4)))),)
        self.assertEqual(cell_told(LINE, cell), (3, 2, (1, 4), (3, 4)))
        void = (("from", (((1, 2), (3, 4)), ((0, 1), (1, 4)))),)
        self.assertEqual(cell_told(LINE, void), (0, 0, (0, 1), (0, 1)))
        wide = (("from", (((-1, 1), (1, 2)), ((0, 1), (1, 1)))),)
        self.assertEqual(cell_told(LINE, wide), (0, 8, (0, 1), (1, 1)))

    def test_round(self):
        cell = (("round", (((1, 2), (3, 4)), ((-1, 1), (1, 4)))),)
        self.assertEqual(cell_told(LINE, cell), (2, 3, (1, 4), (3, 4)))
        whole = (("round", (((0, 1), (1, 4)), ((1, 2), (3, 4)))),)
        self.assertEqual(cell_told(LINE, whole), (8, 0, (1, 1), (1, 1)))

    def test_perhaps_is_counted_once(self):
        sure, perhaps = ("to", (((1, 2), (3, 4)),)), ("to", (((-1, 1), (1, 2)),))
        point = (((1, 4), (1, 4)),)
        self.assertEqual(cell_told(point, (sure, sure))[:2], (1, 0))
        self.assertEqual(cell_told(point, (sure, perhaps))[:2], (0, 1))
        self.assertEqual(cell_told(point, (perhaps, sure))[:2], (0, 1))
        self.assertEqual(cell_told(point, (perhaps, perhaps))[:2], (0, 1))
        out = ("to", (((-1, 1), (1, 4)),))
        self.assertEqual(cell_told(point, (sure, out))[:2], (0, 0))
        self.assertEqual(cell_told(point * 3, (perhaps, sure))[:2], (0, 3))

    def test_boxes_of_a_cell_keep_what_it_tells(self):
        points = scattered(9, 1, bottom=8)
        for word, ranges in sides(7):
            sure, perhaps, least, most = cell_told(points, ((word, ranges),))
            for ends in product(GRID, repeat=len(ranges)):
                if all(big(lo) < big(end) <= big(hi) for end, (lo, hi) in zip(ends, ranges)):
                    box = ((word,) + ends,)
                    self.assertTrue(sure <= inside(points, box, "half") <= sure + perhaps)
                    self.assertTrue(big(least) <= big(size_of(box)) <= big(most))

    def test_sixty_figures(self):
        many = 10 ** 59 + 1
        cell = (("to", (((1, many), (10 ** 59, many)),)),)
        self.assertEqual(cell_told(LINE, cell), (1, 7, (1, many), (10 ** 59, many)))


if __name__ == "__main__":
    unittest.main()
