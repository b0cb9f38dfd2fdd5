"""Rows by figures, their small boxes and their bound: points 43, 44 and 45."""

import unittest
from fractions import Fraction
from itertools import product

from evenpoints.boxes import is_box, is_of, lies_in
from evenpoints.errors import EvenError
from evenpoints.fractions import is_fraction
from evenpoints.looks import many_looks, unevenness
from evenpoints.points import is_points
from evenpoints.rows import box_of, indexes, is_row, is_small, many_in, points_of, row_bound
from things import HUGE, OTHER_THINGS, big, small, turned_plainly

TWO, THREE, FIVE, SEVEN = (2, (0, 1)), (3, (0, 2, 1)), (5, (0, 3, 1, 4, 2)), (7, (0, 1, 2, 3, 4, 5, 6))
FOUR, NINE, SIXTEEN = (4, (0, 2, 3, 1)), (9, (0, 8, 7, 6, 5, 4, 3, 2, 1)), (16, tuple(range(16)))
ROWS = ((TWO,), (THREE,), (SIXTEEN,), (TWO, THREE), (THREE, FOUR), (FIVE, TWO, THREE), (TWO, THREE, FIVE, SEVEN), (NINE, SIXTEEN))


def smalls_of(row, most):
    """Tell small boxes of a row whose modulus is at most so many, a few of each shape."""
    told = []
    for ks in product(range(9), repeat=len(row)):
        modulus = 1
        for (base, exchange), k in zip(row, ks):
            modulus *= base ** k
        if modulus <= most:
            firsts = [sorted({0, base ** k // 3, base ** k - 1}) for (base, exchange), k in zip(row, ks)]
            told += [tuple(zip(ks, cs)) for cs in product(*firsts)]
    return told


class RowTest(unittest.TestCase):
    def test_rows(self):
        for row in ROWS + ((FOUR, NINE, FIVE, SEVEN), (TWO, NINE), (SIXTEEN, (15, tuple(range(15))))):
            self.assertIs(is_row(row), True)
        for base in range(2, 17):
            self.assertIs(is_row(((base, tuple(range(base))),)), True)
            self.assertIs(is_row(((base, (0,) + tuple(range(base - 1, 0, -1))),)), True)

    def test_others(self):
        for thing in OTHER_THINGS + (
            [TWO], ([2, (0, 1)],), ((2, [0, 1]),), ((2, (0, 1), 0),), ((2,),), ((True, (0,)),), ((2, (0, True)),),
            ((2, (False, 1)),), ((2, (1, 0)),), ((2, (0, 0)),), ((2, (0,)),), ((2, (0, 1, 2)),), ((3, (0, 1)),),
            ((3, (0, 1, 1)),), ((3, (0, 1, 3)),), ((3, (0, -1, 1)),), ((3, (1, 0, 2)),), ((3, (0, 1, None)),),
            ((3, (0, 1, "2")),), ((3, (0, 1, (2,))),), ((1, (0,)),), ((0, ()),), ((-2, (0, 1)),),
            ((17, tuple(range(17))),), ((HUGE, (0, 1)),), (("2", (0, 1)),), ((None, (0, 1)),), ((2, None),), ((2, 1),),
            (TWO, TWO), (TWO, FOUR), (FOUR, TWO), (THREE, NINE), (TWO, THREE, SIXTEEN), (THREE, TWO, FIVE, NINE),
            ((6, tuple(range(6))), (15, tuple(range(15)))), (), (TWO, THREE, FIVE, SEVEN, (11, tuple(range(11)))),
            (TWO, None), (TWO, [3, (0, 2, 1)]), TWO, ((TWO,),), ((0, 1), 2), (((0, 1), 2),),
        ):
            self.assertIs(is_row(thing), False, thing)

    def test_points_by_the_words(self):
        for row in ROWS:
            for begin, many in ((0, 1), (0, 40), (1, 7), (999, 40), (10 ** 9, 3), (10 ** 9, 40), (2 ** 20 - 2, 5)):
                told = points_of(row, begin, many)
                self.assertIs(is_points(len(row), told), True)
                right = [[turned_plainly(*turn, n) for turn in row] for n in range(begin, begin + many)]
                self.assertEqual([[big(x) for x in point] for point in told], right)

    def test_points(self):
        self.assertEqual(points_of((TWO, THREE), 1, 3), (((1, 2), (2, 3)), ((1, 4), (1, 3)), ((3, 4), (2, 9))))


class SmallTest(unittest.TestCase):
    def test_small_boxes(self):
        for row in ROWS:
            for small_box in smalls_of(row, 5000):
                self.assertIs(is_small(row, small_box), True)
            self.assertIs(is_small(row, tuple((8, base ** 8 - 1) for base, exchange in row)), True)
            self.assertIs(is_small(row, ((0, 0),) * len(row)), True)

    def test_others(self):
        row = (TWO, THREE)
        right = (1, 0)
        for thing in OTHER_THINGS + (
            (right,), (right, right, right), [right, right], (right, [1, 0]), ([1, 0], right), (right, (1,)), (right, (1, 0, 0)),
            (right, (9, 0)), ((9, 0), right), (right, (-1, 0)), (right, (8, 3 ** 8)), ((8, 2 ** 8), right), (right, (1, 3)),
            (right, (0, 1)), ((1, 2), right), (right, (1, -1)), (right, (True, 0)), (right, (1, True)), (right, (1, False)),
            (right, (False, 0)), (right, (None, 0)), (right, (1, None)), (right, ("1", 0)), (right, (1, "0")),
            (right, ((1,), 0)), (right, None), (None, right), (right, (HUGE, 0)), (right, (1, HUGE)), (right, (HUGE, HUGE)),
        ):
            self.assertIs(is_small(row, thing), False, thing)
        self.assertIs(is_small(row, ((8, 2 ** 8 - 1), (8, 3 ** 8 - 1))), True)
        self.assertIs(is_small((THREE, TWO), ((8, 3 ** 8 - 1), (8, 2 ** 8 - 1))), True)
        self.assertIs(is_small((THREE, TWO), ((8, 2 ** 8 - 1), (8, 3 ** 8 - 1))), False)

    def test_the_box(self):
        self.assertEqual(box_of((TWO, THREE), ((2, 1), (1, 2))), (("from", (1, 4), (1, 2)), ("from", (2, 3), (1, 1))))
        for row in ROWS:
            for small_box in smalls_of(row, 3000):
                box = box_of(row, small_box)
                self.assertIs(is_box(len(row), box) and is_of("inner", box), True)
                right = tuple(
                    ("from", small(Fraction(c, base ** k)), small(Fraction(c + 1, base ** k)))
                    for (base, exchange), (k, c) in zip(row, small_box)
                )
                self.assertEqual(box, right)


class IndexesTest(unittest.TestCase):
    def test_by_a_walk(self):
        for row in ROWS:
            most = 400
            points = [
                tuple(small(turned_plainly(*turn, n)) for turn in row) for n in range(2 * most)
            ]
            for small_box in smalls_of(row, most)[::3 if len(row) > 2 else 1]:
                rest, modulus = indexes(row, small_box)
                right = 1
                for (base, exchange), (k, c) in zip(row, small_box):
                    right *= base ** k
                self.assertEqual(modulus, right)
                self.assertTrue(0 <= rest < modulus)
                box = box_of(row, small_box)
                found = [n for n, point in enumerate(points) if lies_in(point, box, "half")]
                self.assertEqual(found, [n for n in range(2 * most) if n % modulus == rest])
                for begin, many in ((0, 0), (0, 1), (0, 17), (5, 100), (399, 400), (rest, 1), (rest + 1, modulus)):
                    if begin + many <= 2 * most:
                        right = len([n for n in found if begin <= n < begin + many])
                        self.assertEqual(many_in(row, small_box, begin, many), right)

    def test_a_tuple_of_two(self):
        told = indexes((TWO, THREE), ((1, 1), (1, 2)))
        self.assertIs(type(told), tuple)
        self.assertEqual(told, (1, 6))
        self.assertEqual(indexes((TWO, THREE), ((0, 0), (0, 0))), (0, 1))
        self.assertEqual(indexes((TWO, THREE), ((0, 0), (1, 1))), (2, 3))

    def test_great_moduli(self):
        row = (TWO, THREE, FIVE, SEVEN)
        for cs in ((0, 0, 0, 0), (255, 6560, 390624, 5764800), (100, 1000, 10000, 100000), (1, 2, 3, 4)):
            small_box = tuple((8, c) for c in cs)
            rest, modulus = indexes(row, small_box)
            self.assertEqual(modulus, 210 ** 8)
            self.assertTrue(0 <= rest < modulus)
            box = box_of(row, small_box)
            point = tuple(small(turned_plainly(*turn, rest)) for turn in row)
            self.assertIs(lies_in(point, box, "half"), True)

    def test_to_ten_to_the_eighteen(self):
        far = 10 ** 18
        for row in ROWS:
            for small_box in smalls_of(row, 3000)[::7] + [tuple((8, base ** 8 - 1) for base, exchange in row)]:
                rest, modulus = indexes(row, small_box)
                for begin in (0, 1, far - 1, far):
                    for many in (0, 1, 2, modulus - 1, modulus, modulus + 1, far - 1, far):
                        if many > far:
                            continue
                        told = many_in(row, small_box, begin, many)
                        first = begin + (rest - begin) % modulus
                        right = 0 if first >= begin + many else (begin + many - 1 - first) // modulus + 1
                        self.assertEqual(told, right)
                        self.assertIn(told, (many // modulus, -(-many // modulus)))
        whole = ((0, 0),)
        self.assertEqual(many_in((TWO,), whole, far, far), far)
        self.assertEqual(many_in((TWO,), whole, far, 0), 0)


class BoundTest(unittest.TestCase):
    def right(self, row, many):
        total = 1
        for base, exchange in row:
            m = 0
            while base ** m < many:
                m += 1
            total *= max(1, (base - 1) * m)
        return min(Fraction(total + len(row), many), Fraction(1))

    def test_by_the_words(self):
        for row in ROWS:
            manies = {1, 2, 3, 40, 1000, 10 ** 6, 10 ** 9, 10 ** 9 - 1}
            for base, exchange in row:
                manies |= {base ** k + d for k in range(31) for d in (-1, 0, 1) if 1 <= base ** k + d <= 10 ** 9}
            for many in sorted(manies):
                told = row_bound(row, many)
                self.assertIs(is_fraction(told), True)
                self.assertEqual(big(told), self.right(row, many))

    def test_examples(self):
        self.assertEqual(row_bound((TWO,), 1), (1, 1))
        self.assertEqual(row_bound((TWO,), 1024), (11, 1024))
        self.assertEqual(row_bound((TWO,), 1025), (12, 1025))
        self.assertEqual(row_bound((TWO,), 10 ** 9), (31, 10 ** 9))
        self.assertEqual(row_bound((TWO, THREE), 10 ** 4), (127, 5000))

    def test_no_unevenness_is_above_it(self):
        for row in ((TWO,), (THREE,), (FOUR,), (TWO, THREE), (THREE, FOUR)):
            for begin in (0, 1, 7, 100, 10 ** 6 - 3, 10 ** 9):
                for many in (1, 2, 3, 8, 16, 27, 33, 40):
                    points = points_of(row, begin, many)
                    if many_looks(points, "corner") <= 3000:
                        uneven = unevenness(points, "corner")
                        self.assertLessEqual(big(uneven), big(row_bound(row, many)), (row, begin, many))

    def test_what_goes_somewhat_beyond_is_not_refused(self):
        for row in ((TWO,), (TWO, THREE)):
            try:
                points_of(row, 10 ** 9 + 5, 41)
                row_bound(row, 10 ** 10)
                many_in(row, ((1, 0),) * len(row), 10 ** 19, 10 ** 19)
            except EvenError:
                self.fail("refused")


if __name__ == "__main__":
    unittest.main()
