"""Looks and unevenness: points 4, 25, 26 and 27."""

import unittest
from fractions import Fraction
from itertools import product

from evenpoints.boxes import is_box, is_of
from evenpoints.errors import TooMany
from evenpoints.looks import all_worst, looks, many_looks, unevenness, worst
from things import big, box_size_plainly, inside_plainly, scattered, small

FAMILIES = ("corner", "inner", "round")
ZERO, ONE, LOW = (0, 1), (1, 1), (-1, 1)
SETS = (
    (((0, 1),),), (((1, 2),),), (((0, 1),),) * 3, (((2, 3),),) * 2,
    scattered(5, 1), scattered(9, 1, seed=3), scattered(3, 2), scattered(4, 2, seed=8), scattered(2, 3),
    (((0, 1), (0, 1)), ((0, 1), (1, 2))), (((0, 1), (0, 1), (0, 1)),), (((1, 3), (0, 1), (1, 2), (3, 4)),),
    (((1, 2), (1, 3)),) * 2,
)


def side_looks_plainly(points, side, family):
    """Tell the looks at a side by the document's words."""
    numbers = [small(x) for x in sorted({big(point[side]) for point in points})]
    if family == "corner":
        return [("to", t) for t in numbers + [ONE]]
    rows = [("from", a, b) for a in [LOW] + numbers for b in numbers + [ONE] if big(a) <= big(b)]
    if family == "round":
        rows += [("round", a, b) for a in numbers + [ONE] for b in [LOW] + numbers if big(b) <= big(a)]
    return rows


def looks_plainly(points, family):
    """Tell all looks of points by the document's words."""
    return list(product(*[side_looks_plainly(points, side, family) for side in range(len(points[0]))]))


def misses_plainly(points, family):
    """Tell (value, way, box) of each look, counted one by one."""
    rows = []
    for box in looks_plainly(points, family):
        size = box_size_plainly(box)
        rows.append((Fraction(inside_plainly(points, box, "shut"), len(points)) - size, "over", box))
        rows.append((size - Fraction(inside_plainly(points, box, "open"), len(points)), "lack", box))
    return rows


class LooksTest(unittest.TestCase):
    def test_order(self):
        points = (((1, 2),), ((0, 1),))
        half = (1, 2)
        corner = [("to", ZERO), ("to", half), ("to", ONE)]
        inner = [
            ("from", LOW, ZERO), ("from", LOW, half), ("from", LOW, ONE),
            ("from", ZERO, ZERO), ("from", ZERO, half), ("from", ZERO, ONE),
            ("from", half, half), ("from", half, ONE),
        ]
        turned = [
            ("round", ZERO, LOW), ("round", ZERO, ZERO),
            ("round", half, LOW), ("round", half, ZERO), ("round", half, half),
            ("round", ONE, LOW), ("round", ONE, ZERO), ("round", ONE, half),
        ]
        self.assertEqual(looks(points, "corner"), [(side,) for side in corner])
        self.assertEqual(looks(points, "inner"), [(side,) for side in inner])
        self.assertEqual(looks(points, "round"), [(side,) for side in inner + turned])

    def test_the_last_side_goes_on_first(self):
        points = (((1, 2), (0, 1)),)
        right = [(("to", (1, 2)), ("to", ZERO)), (("to", (1, 2)), ("to", ONE)),
                 (("to", ONE), ("to", ZERO)), (("to", ONE), ("to", ONE))]
        self.assertEqual(looks(points, "corner"), right)

    def test_by_the_words(self):
        for points in SETS:
            for family in FAMILIES:
                if many_looks(points, family) <= 3000:
                    told = looks(points, family)
                    self.assertIs(type(told), list)
                    self.assertEqual(told, looks_plainly(points, family))
                    self.assertEqual(len(set(told)), len(told))
                    for box in told:
                        self.assertIs(is_box(len(points[0]), box) and is_of(family, box), True)

    def test_how_many(self):
        for u in range(1, 41):
            points = tuple((small(Fraction(k, 41)),) for k in range(u))
            if u < 40:
                points = points + points[:1]
            inner = (u + 1) * (u + 2) // 2 + u
            for family, many in (("corner", u + 1), ("inner", inner), ("round", 2 * inner)):
                self.assertEqual(many_looks(points, family), many)
                self.assertEqual(len(looks(points, family)), many)

    def test_how_many_of_more_sides(self):
        for points in SETS + (scattered(40, 4, bottom=999983),):
            for family in FAMILIES:
                many = 1
                for side in range(len(points[0])):
                    many *= len(side_looks_plainly(points, side, family))
                self.assertEqual(many_looks(points, family), many)


class UnevennessTest(unittest.TestCase):
    def test_by_the_words(self):
        for points in SETS:
            for family in FAMILIES:
                if many_looks(points, family) <= 3000:
                    self.check(points, family)

    def check(self, points, family):
        rows = misses_plainly(points, family)
        greatest = max(row[0] for row in rows)
        self.assertEqual(unevenness(points, family), small(greatest))
        self.assertEqual(all_worst(points, family), [(way, box) for value, way, box in rows if value == greatest])
        self.assertIs(type(all_worst(points, family)), list)
        told = worst(points, family)
        self.assertIs(type(told), tuple)
        number, way, box = told
        self.assertEqual(number, small(greatest))
        self.assertIs(is_of(family, box) and is_box(len(points[0]), box), True)
        size = box_size_plainly(box)
        if way == "over":
            self.assertEqual(Fraction(inside_plainly(points, box, "shut"), len(points)) - size, greatest)
        else:
            self.assertEqual(way, "lack")
            self.assertEqual(size - Fraction(inside_plainly(points, box, "open"), len(points)), greatest)

    def test_one_side_by_the_known_sum(self):
        for many in (1, 2, 5, 12, 40):
            points = scattered(many, 1, bottom=997)
            values = sorted(big(point[0]) for point in points)
            right = max(max(Fraction(k + 1, many) - x, x - Fraction(k, many)) for k, x in enumerate(values))
            self.assertEqual(big(unevenness(points, "corner")), right)

    def test_examples(self):
        one = (((0, 1),),)
        self.assertEqual(unevenness(one, "corner"), ONE)
        self.assertEqual(worst(one, "corner"), (ONE, "over", (("to", ZERO),)))
        self.assertEqual(all_worst(one, "corner"), [("over", (("to", ZERO),))])
        half = (((1, 2),),)
        self.assertEqual(unevenness(half, "corner"), (1, 2))
        self.assertEqual(all_worst(half, "corner"), [("over", (("to", (1, 2)),)), ("lack", (("to", (1, 2)),))])
        self.assertEqual(unevenness(half, "inner"), ONE)
        three = tuple(((k, 3),) if k else ((0, 1),) for k in range(3))
        self.assertEqual(unevenness(three, "corner"), (1, 3))
        self.assertEqual(unevenness(three, "round"), (1, 3))

    def test_no_miss_passes_it_and_some_come_near(self):
        tiny = Fraction(1, 10 ** 6)
        for points in SETS[:10]:
            for family in FAMILIES:
                if many_looks(points, family) > 3000:
                    continue
                number, way, box = worst(points, family)
                near = self.nudged(box, way, tiny)
                miss = Fraction(inside_plainly(points, near, "half"), len(points)) - box_size_plainly(near)
                value = miss if way == "over" else -miss
                self.assertLessEqual(value, big(number))
                self.assertGreater(value, big(number) - 20 * tiny)
                self.no_miss_passes(points, family, big(number))

    def nudged(self, box, way, tiny):
        """Let a shut box out a little, draw an open one in a little."""
        sides = []
        for word, *ends in box:
            ends = [big(end) for end in ends]
            if way == "over":
                ends[-1] = min(ends[-1] + tiny, Fraction(1))
            elif word != "to":
                ends[0] = min(ends[0] + tiny, Fraction(1))
            sides.append((word,) + tuple(small(end) for end in ends))
        return tuple(sides)

    def no_miss_passes(self, points, family, number):
        ends = [small(Fraction(k, 5)) for k in range(-1, 6)] + [(1, 2)]
        words = {"corner": ("to",), "inner": ("from",), "round": ("from", "round")}[family]
        sides = [(word,) + row for word in words for row in product(ends, repeat=1 if word == "to" else 2)]
        step = 1 if len(points[0]) == 1 else 7
        for box in list(product(sides, repeat=len(points[0])))[::step][:4000]:
            miss = Fraction(inside_plainly(points, box, "half"), len(points)) - box_size_plainly(box)
            self.assertLessEqual(abs(miss), number, (points, box))

    def test_families_beside_one_another(self):
        for points in SETS:
            told = [big(unevenness(points, family)) for family in FAMILIES if many_looks(points, family) <= 3000]
            for one, other in zip(told, told[1:]):
                self.assertLessEqual(one, other)
                self.assertLessEqual(other, 2 ** len(points[0]) * one)


class TooManyTest(unittest.TestCase):
    def diagonal(self, manies):
        """Make points with so many unlike numbers at each side."""
        rows = max(manies)
        return tuple(tuple(small(Fraction(k % many, 41)) for many in manies) for k in range(rows))

    def test_three_thousand_are_told(self):
        points = self.diagonal((9, 14, 19))
        self.assertEqual(many_looks(points, "corner"), 3000)
        self.assertEqual(len(looks(points, "corner")), 3000)
        self.check_greatest(points)

    def check_greatest(self, points):
        number, way, box = worst(points, "corner")
        rows = misses_plainly(points, "corner")
        greatest = max(row[0] for row in rows)
        self.assertEqual(big(number), greatest)
        self.assertEqual(unevenness(points, "corner"), number)
        self.assertEqual(all_worst(points, "corner"), [row[1:] for row in rows if row[0] == greatest])

    def test_more_are_refused(self):
        for manies, family, many in (
            ((10, 12, 20), "corner", 3003), ((40, 40), "inner", 901 * 901), ((40,) * 4, "round", 1802 ** 4),
        ):
            points = self.diagonal(manies)
            self.assertEqual(many_looks(points, family), many)
            for asked in (looks, unevenness, worst, all_worst):
                with self.assertRaises(TooMany) as caught:
                    asked(points, family)
                self.assertEqual(caught.exception.word, "looks")


if __name__ == "__main__":
    unittest.main()
