"""Sheets, their means, wholes, weights and swings: points 87, 88 and 89, and point 5 of them."""

import unittest
from fractions import Fraction
from itertools import product
from random import Random

from evenpoints.fractions import is_fraction
from evenpoints.sums import mean_of, sheet_of, swing_of, value_at, weights_of, whole_of
from things import HALF, HUGE, THIRD, big, inside_plainly, lies_plainly, scattered, small, uneven_plainly

ZERO, ONE = (0, 1), (1, 1)
SIX = tuple(small(Fraction(k, 7)) for k in range(1, 7))
ODD = ((1, 999999999999), (1, 3), (999999999998, 999999999999))
CUTS = (
    ((),), ((HALF,),), ((THIRD, HALF),), (SIX,), (ODD,),
    ((), ()), ((HALF,), ()), ((), (HALF,)), ((THIRD,), (THIRD, HALF)), (SIX, ODD), (SIX, SIX), (ODD, (HALF,)),
)


def some_value(chance, sort):
    """Make a fraction by a fixed rule: small ones, noughts among them, or great ones."""
    if sort == "great":
        return small(Fraction(chance.randrange(-10 ** 12 + 1, 10 ** 12), chance.randrange(1, 10 ** 12)))
    return small(Fraction(chance.randrange(-2, 3), chance.randrange(1, 3)))


def some_sheet(cuts, seed):
    """Make a sheet by a fixed rule."""
    chance = Random(f"{cuts} {seed}")
    sort = "great" if seed % 3 == 2 else "small"
    if len(cuts) == 1:
        return (cuts, tuple(some_value(chance, sort) for _ in range(len(cuts[0]) + 1)))
    return (cuts, tuple(
        tuple(some_value(chance, sort) for _ in range(len(cuts[1]) + 1)) for _ in range(len(cuts[0]) + 1)))


SHEETS = tuple(some_sheet(cuts, seed) for cuts in CUTS for seed in range(4))


def stretch_plainly(x, cuts):
    """Tell the number of x's stretch by its ends."""
    ends = [Fraction(0)] + [big(cut) for cut in cuts] + [Fraction(1)]
    return [k for k in range(len(ends) - 1) if ends[k] <= big(x) < ends[k + 1]][0]


def value_plainly(sheet, point):
    """Tell a sheet's value at a point as Python's own fraction."""
    value = sheet[1]
    for x, cuts in zip(point, sheet[0]):
        value = value[stretch_plainly(x, cuts)]
    return big(value)


def points_near(cuts):
    """Make points on all cuts and beside them."""
    numbers = []
    for side in cuts:
        beside = {Fraction(0), Fraction(10 ** 12 - 2, 10 ** 12 - 1), Fraction(1, 2)}
        for cut in side:
            beside |= {big(cut), big(cut) - Fraction(1, 10 ** 13), big(cut) + Fraction(1, 10 ** 14)}
        numbers.append([small(x) for x in sorted(beside) if 0 <= x < 1])
    return tuple(product(*numbers))


def whole_plainly(sheet):
    """Add up all fractions times their stretches' lengths."""
    lengths = []
    for cuts in sheet[0]:
        ends = [Fraction(0)] + [big(cut) for cut in cuts] + [Fraction(1)]
        lengths.append([b - a for a, b in zip(ends, ends[1:])])
    if len(lengths) == 1:
        return sum(big(value) * a for value, a in zip(sheet[1], lengths[0]))
    return sum(big(value) * a * b for row, a in zip(sheet[1], lengths[0]) for value, b in zip(row, lengths[1]))


def boxes_plainly(cuts):
    """Make all corner boxes whose numbers are cuts or 1, in the document's order."""
    return [tuple(("to", t) for t in choice) for choice in product(*[side + (ONE,) for side in cuts])]


def swing_plainly(weights):
    """Add up all weights without their signs, but that of the box of ones."""
    return sum(
        (abs(big(weight)) for box, weight in weights if any(t != ONE for word, t in box)), Fraction(0))


class ValueTest(unittest.TestCase):
    def test_on_cuts_and_beside_them(self):
        for sheet in SHEETS:
            for point in points_near(sheet[0]):
                told = value_at(sheet, point)
                self.assertEqual(big(told), value_plainly(sheet, point))
                self.assertTrue(is_fraction(told))

    def test_examples(self):
        sheet = (((HALF,), (THIRD,)), ((ZERO, ONE), ((2, 1), (3, 1))))
        self.assertEqual(value_at(sheet, (ZERO, ZERO)), ZERO)
        self.assertEqual(value_at(sheet, (ZERO, THIRD)), ONE)
        self.assertEqual(value_at(sheet, (HALF, ZERO)), (2, 1))
        self.assertEqual(value_at(sheet, (HALF, THIRD)), (3, 1))

    def test_mean(self):
        for sheet in SHEETS:
            near = points_near(sheet[0])
            for points in (near[:1], near[-1:], near[:40], near[::max(1, len(near) // 30)][:40], (near[0],) * 7 + (near[-1],) * 5):
                told = mean_of(sheet, points)
                self.assertEqual(big(told), sum(value_plainly(sheet, point) for point in points) / len(points))
                self.assertTrue(is_fraction(told))

    def test_whole(self):
        for sheet in SHEETS:
            told = whole_of(sheet)
            self.assertEqual(big(told), whole_plainly(sheet))
            self.assertTrue(is_fraction(told))
        self.assertEqual(whole_of((((),), ((5, 3),))), (5, 3))
        self.assertEqual(whole_of((((), ()), (((-5, 3),),))), (-5, 3))
        self.assertEqual(whole_of((((THIRD,),), ((3, 1), ZERO))), ONE)


class WeightsTest(unittest.TestCase):
    def test_they_come_to_the_value_at_each_point(self):
        for sheet in SHEETS:
            weights = weights_of(sheet)
            for point in points_near(sheet[0]):
                come = sum(
                    (big(weight) for box, weight in weights if all(lies_plainly(x, side, "half") for x, side in zip(point, box))),
                    Fraction(0))
                self.assertEqual(come, value_plainly(sheet, point))

    def test_form_and_order(self):
        for sheet in SHEETS:
            weights = weights_of(sheet)
            self.assertIs(type(weights), tuple)
            self.assertTrue(all(type(row) is tuple and len(row) == 2 for row in weights))
            boxes = [box for box, weight in weights]
            self.assertEqual(boxes, [box for box in boxes_plainly(sheet[0]) if box in boxes])
            self.assertEqual(len(set(boxes)), len(boxes))
            self.assertTrue(all(is_fraction(weight) and weight != ZERO for box, weight in weights))

    def test_no_weight_is_left_out_but_noughts(self):
        values = tuple(small(Fraction(2 ** k)) for k in range(7))
        self.assertEqual(len(weights_of(((SIX,), values))), 7)
        grid = tuple(tuple((100 ** i * 3 ** j, 1) for j in range(7)) for i in range(7))
        self.assertEqual(len(weights_of(((SIX, SIX), grid))), 49)

    def test_one_side_as_the_document_tells(self):
        for sheet in SHEETS:
            if len(sheet[0]) == 1:
                values = [big(value) for value in sheet[1]] + [Fraction(0)]
                plainly = tuple(
                    ((("to", t),), small(values[k] - values[k + 1]))
                    for k, t in enumerate(sheet[0][0] + (ONE,)) if values[k] != values[k + 1])
                self.assertEqual(weights_of(sheet), plainly)

    def test_examples(self):
        self.assertEqual(weights_of((((),), (ZERO,))), ())
        self.assertEqual(weights_of((((), ()), ((ZERO,),))), ())
        self.assertEqual(weights_of((((),), (HALF,))), (((("to", ONE),), HALF),))
        self.assertEqual(weights_of((((HALF,),), (ONE, ONE))), (((("to", ONE),), ONE),))
        self.assertEqual(weights_of((((HALF,),), (ONE, ZERO))), (((("to", HALF),), ONE),))
        self.assertEqual(weights_of((((HALF,),), (ZERO, ONE))), (((("to", HALF),), (-1, 1)), ((("to", ONE),), ONE)))
        sheet = (((HALF,), (THIRD,)), ((ZERO, ZERO), (ZERO, ONE)))
        self.assertEqual(weights_of(sheet), (
            ((("to", HALF), ("to", THIRD)), ONE), ((("to", HALF), ("to", ONE)), (-1, 1)),
            ((("to", ONE), ("to", THIRD)), (-1, 1)), ((("to", ONE), ("to", ONE)), ONE)))


class SheetTest(unittest.TestCase):
    def test_weights_make_their_sheet_again(self):
        for sheet in SHEETS:
            weights = weights_of(sheet)
            self.assertEqual(sheet_of(sheet[0], weights), sheet)
            self.assertEqual(sheet_of(sheet[0], weights[::-1]), sheet)
            self.assertEqual(sheet_of(sheet[0], weights[1::2] + weights[::2]), sheet)

    def test_weights_in_any_order(self):
        for cuts in CUTS:
            chance = Random(f"weights {cuts}")
            boxes = boxes_plainly(cuts)
            for many in (0, 1, len(boxes) // 2, len(boxes)):
                weights = [(box, some_value(chance, "great")) for box in chance.sample(boxes, min(many, len(boxes)))]
                sheet = sheet_of(cuts, tuple(weights))
                self.assertEqual(sheet[0], cuts)
                self.assertEqual(
                    dict(weights_of(sheet)), {box: weight for box, weight in weights if weight != ZERO})
                for point in points_near(cuts):
                    come = sum((big(weight) for box, weight in weights if inside_plainly([point], box, "half")), Fraction(0))
                    self.assertEqual(value_at(sheet, point), small(come))

    def test_of_none(self):
        for cuts in CUTS:
            sheet = sheet_of(cuts, ())
            self.assertEqual((type(sheet), sheet[0]), (tuple, cuts))
            if len(cuts) == 1:
                self.assertEqual(sheet[1], (ZERO,) * (len(cuts[0]) + 1))
            else:
                self.assertEqual(sheet[1], ((ZERO,) * (len(cuts[1]) + 1),) * (len(cuts[0]) + 1))
            self.assertEqual((weights_of(sheet), swing_of(sheet), whole_of(sheet)), ((), ZERO, ZERO))

    def test_a_weight_of_nought(self):
        self.assertEqual(sheet_of(((HALF,),), (((("to", HALF),), ZERO),)), (((HALF,),), (ZERO, ZERO)))


class SwingTest(unittest.TestCase):
    def test_without_the_box_of_ones(self):
        for sheet in SHEETS:
            told = swing_of(sheet)
            self.assertEqual(big(told), swing_plainly(weights_of(sheet)))
            self.assertTrue(is_fraction(told))
        self.assertEqual(swing_of((((),), ((-7, 2),))), ZERO)
        self.assertEqual(swing_of((((), ()), (((-7, 2),),))), ZERO)
        self.assertEqual(swing_of((((HALF,),), (ZERO, ONE))), ONE)
        self.assertEqual(swing_of((((HALF,),), (ONE, ZERO))), ONE)
        # At one side it is what the values go up and down.
        self.assertEqual(swing_of((((THIRD, HALF),), (ZERO, (-2, 1), HALF))), (9, 2))
        sheet = (((HALF,), (THIRD,)), ((ZERO, ZERO), (ZERO, ONE)))
        self.assertEqual(swing_of(sheet), (3, 1))

    def test_the_mean_misses_the_whole_by_no_more(self):
        for sheet in SHEETS:
            for many in (1, 2, 5, 9):
                for bottom in (2, 7, 17):
                    points = scattered(many, len(sheet[0]), bottom=bottom, seed=many)
                    miss = abs(big(mean_of(sheet, points)) - big(whole_of(sheet)))
                    self.assertLessEqual(miss, big(swing_of(sheet)) * uneven_plainly(points))

    def test_a_corner_box_counted(self):
        for cuts in CUTS:
            for box in boxes_plainly(cuts)[::5]:
                sheet = sheet_of(cuts, ((box, ONE),))
                for many in (1, 6, 40):
                    points = scattered(many, len(cuts), bottom=7)
                    self.assertEqual(big(mean_of(sheet, points)) * many, inside_plainly(points, box, "half"))

    def test_great_values(self):
        value = small(Fraction(HUGE, 3))
        sheet = (((HALF,),), (value, ZERO))
        self.assertEqual((swing_of(sheet), whole_of(sheet)), (value, small(Fraction(HUGE, 6))))
        self.assertEqual(mean_of(sheet, ((ZERO,), (HALF,))), small(Fraction(HUGE, 6)))


if __name__ == "__main__":
    unittest.main()
