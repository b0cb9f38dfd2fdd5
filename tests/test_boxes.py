"""Sides and boxes: points 3, 4 and 15."""

import unittest

from evenpoints.boxes import (
    inside, is_box, is_of, is_side, lack_of, lies, lies_in, miss_of, over_of, side_size, size_of,
)
from evenpoints.fractions import is_fraction
from things import (
    NUMBERS, OTHER_THINGS, all_sides, big, box_size_plainly, deep, inside_plainly, lies_plainly, scattered,
    size_plainly, small,
)

WAYS = ("half", "shut", "open")
TO = ("to", (1, 2))
FROM = ("from", (1, 4), (3, 4))
ROUND = ("round", (3, 4), (1, 4))


def some_boxes(s):
    """Make boxes of s sides, of all words and orders."""
    sides = all_sides()
    return [tuple(sides[(k * 31 + j * 17) % len(sides)] for j in range(s)) for k in range(len(sides))]


class IsSideTest(unittest.TestCase):
    def test_sides(self):
        for side in all_sides():
            self.assertIs(is_side(side), True, side)

    def test_ends(self):
        for t, right in (((1, 1), True), ((-1, 1), True), ((0, 1), True), ((2, 1), False), ((-2, 1), False),
                         ((10, 9), False), ((-10, 9), False), ((9, 10), True), ((-9, 10), True)):
            self.assertIs(is_side(("to", t)), right, t)
            for word in ("from", "round"):
                self.assertIs(is_side((word, t, (0, 1))), right, t)
                self.assertIs(is_side((word, (0, 1), t)), right, t)

    def test_words_and_how_many_numbers(self):
        for word in ("to", "from", "round", "", "To", "at", "open", "corner", "to "):
            for many in range(5):
                right = (word == "to" and many == 1) or (word in ("from", "round") and many == 2)
                self.assertIs(is_side((word,) + ((1, 2),) * many), right, (word, many))

    def test_other_things(self):
        for thing in OTHER_THINGS:
            self.assertIs(is_side(thing), False, thing)
            self.assertIs(is_side(("to", thing)), False, thing)
            self.assertIs(is_side(("from", (0, 1), thing)), False, thing)
            self.assertIs(is_side(("round", thing, (0, 1))), False, thing)
            self.assertIs(is_side((thing, (0, 1))) and thing != "to", False, thing)
        self.assertIs(is_side(deep(40)), False)
        self.assertIs(is_side(("to",) + ((0, 1),) * 6000), False)

    def test_kinds(self):
        self.assertIs(is_side(list(TO)), False)
        self.assertIs(is_side(("to", [1, 2])), False)
        self.assertIs(is_side((["to"], (1, 2))), False)
        self.assertIs(is_side((("to",), (1, 2))), False)
        self.assertIs(is_side(("to", (True, 1))), False)
        self.assertIs(is_side(("to", (2, 4))), False)
        self.assertIs(is_side((None, (1, 2))), False)
        self.assertIs(is_side(([], (1, 2))), False)


class IsBoxTest(unittest.TestCase):
    def test_boxes(self):
        for s in range(1, 5):
            for box in some_boxes(s):
                self.assertIs(is_box(s, box), True)
                self.assertIs(is_box(s + 1, box), False)
                self.assertIs(is_box(s - 1, box), False)

    def test_other_things(self):
        for s in range(1, 5):
            for thing in OTHER_THINGS:
                self.assertIs(is_box(s, thing), False, thing)
                self.assertIs(is_box(s, (TO,) * (s - 1) + (thing,)), False, thing)
                self.assertIs(is_box(s, (thing,) + (FROM,) * (s - 1)), False, thing)
            self.assertIs(is_box(s, [TO] * s), False)
            self.assertIs(is_box(s, (list(TO),) * s), False)
            self.assertIs(is_box(s, deep(40)), False)
        self.assertIs(is_box(1, TO), False)
        self.assertIs(is_box(2, TO), False)


class FamilyTest(unittest.TestCase):
    def test_one_side(self):
        for side, families in ((TO, ("corner",)), (FROM, ("inner", "round")), (ROUND, ("round",))):
            for family in ("corner", "inner", "round"):
                self.assertIs(is_of(family, (side,)), family in families)

    def test_more_sides(self):
        for box, families in (
            ((TO, TO, TO), ("corner",)),
            ((FROM, FROM), ("inner", "round")),
            ((FROM, ROUND), ("round",)),
            ((ROUND, ROUND, ROUND, ROUND), ("round",)),
            ((TO, FROM), ()),
            ((FROM, TO), ()),
            ((TO, ROUND), ()),
            ((FROM, ROUND, TO), ()),
        ):
            for family in ("corner", "inner", "round"):
                self.assertIs(is_of(family, box), family in families, box)


class SizeTest(unittest.TestCase):
    def test_sides(self):
        for side in all_sides():
            self.assertEqual(side_size(side), small(size_plainly(side)), side)

    def test_examples(self):
        for side, size in (
            (("to", (-1, 2)), (0, 1)), (("to", (2, 3)), (2, 3)), (("to", (1, 1)), (1, 1)),
            (("from", (-1, 1), (1, 3)), (1, 3)), (("from", (1, 4), (1, 2)), (1, 4)),
            (("from", (1, 2), (1, 4)), (0, 1)), (("from", (1, 2), (1, 2)), (0, 1)),
            (("from", (-1, 2), (-1, 3)), (0, 1)),
            (("round", (3, 4), (1, 4)), (1, 2)), (("round", (1, 4), (3, 4)), (1, 1)),
            (("round", (1, 2), (1, 2)), (1, 1)), (("round", (1, 1), (-1, 1)), (0, 1)),
            (("round", (-1, 3), (-1, 2)), (1, 1)), (("round", (2, 3), (-1, 1)), (1, 3)),
        ):
            self.assertEqual(side_size(side), size, side)

    def test_boxes(self):
        for s in range(1, 5):
            for box in some_boxes(s):
                self.assertEqual(size_of(box), small(box_size_plainly(box)))
        self.assertEqual(size_of((TO, FROM, ROUND)), (1, 8))


class LiesTest(unittest.TestCase):
    def test_every_number_in_every_side(self):
        for side in all_sides():
            for x in NUMBERS:
                for way in WAYS:
                    self.assertIs(lies(x, side, way), lies_plainly(x, side, way), (x, side, way))

    def test_at_the_numbers_themselves(self):
        quarter, three = (1, 4), (3, 4)
        for x, side, half, shut, free in (
            ((1, 2), TO, False, True, False),
            (quarter, FROM, True, True, False),
            (three, FROM, False, True, False),
            (quarter, ROUND, False, True, False),
            (three, ROUND, True, True, False),
            ((0, 1), ("to", (0, 1)), False, True, False),
            ((0, 1), ("to", (-1, 1)), False, False, False),
            ((0, 1), ("from", (0, 1), (1, 1)), True, True, False),
            ((0, 1), ("from", (-1, 1), (1, 1)), True, True, True),
            ((1, 2), ("from", (1, 2), (1, 2)), False, True, False),
            ((1, 2), ("round", (1, 2), (1, 2)), True, True, False),
        ):
            self.assertIs(lies(x, side, "half"), half, (x, side))
            self.assertIs(lies(x, side, "shut"), shut, (x, side))
            self.assertIs(lies(x, side, "open"), free, (x, side))

    def test_points_and_counts(self):
        for s in range(1, 5):
            points = scattered(12, s, bottom=12) + (((0, 1),) * s, ((1, 2),) * s, ((1, 2),) * s)
            for box in some_boxes(s):
                for way in WAYS:
                    self.assertEqual(inside(points, box, way), inside_plainly(points, box, way))
                for point in points:
                    self.assertIs(lies_in(point, box, "half"), inside_plainly((point,), box, "half") == 1)

    def test_alike_points_count_each(self):
        self.assertEqual(inside((((1, 4),),) * 3, (TO,), "half"), 3)


class MissTest(unittest.TestCase):
    def test_by_the_words(self):
        for s in range(1, 5):
            points = scattered(7, s, bottom=12) + (((1, 2),) * s,)
            for box in some_boxes(s):
                size = box_size_plainly(box)
                shares = {way: big((inside_plainly(points, box, way), len(points))) for way in WAYS}
                self.assertEqual(miss_of(points, box), small(shares["half"] - size))
                self.assertEqual(over_of(points, box), small(shares["shut"] - size))
                self.assertEqual(lack_of(points, box), small(size - shares["open"]))
                self.assertIs(is_fraction(miss_of(points, box)), True)

    def test_examples(self):
        points = (((0, 1),), ((1, 2),), ((1, 2),))
        self.assertEqual(miss_of(points, (TO,)), (-1, 6))
        self.assertEqual(over_of(points, (TO,)), (1, 2))
        self.assertEqual(lack_of(points, (TO,)), (1, 6))
        self.assertEqual(over_of(points, (("from", (0, 1), (0, 1)),)), (1, 3))
        self.assertEqual(lack_of(points, (("from", (1, 2), (1, 1)),)), (1, 2))

    def test_what_is_handed_in_stays(self):
        points = scattered(5, 2)
        box = (FROM, ROUND)
        kept = (repr(points), repr(box))
        miss_of(points, box), over_of(points, box), lack_of(points, box), inside(points, box, "open")
        self.assertEqual((repr(points), repr(box)), kept)


if __name__ == "__main__":
    unittest.main()
