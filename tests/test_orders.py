"""Orders of points and their papers: points 83 to 85, and point 5 of them."""

import unittest
from fractions import Fraction
from itertools import permutations

from evenpoints.boxes import lack_of, over_of
from evenpoints.errors import EvenError, NoPaper
from evenpoints.fractions import is_fraction
from evenpoints.looks import all_worst
from evenpoints.orderchecker import lets_order
from evenpoints.orders import best_order, heave
from things import HALF, HUGE, OTHER_THINGS, THIRD, altered, big, deep, is_corner_plainly, scattered, small, uneven_plainly

ZERO = (0, 1)
TWO = ((ZERO,), (HALF,))
THREE = ((ZERO,), (HALF,), (THIRD,))
SQUARE = ((ZERO, ZERO), (HALF, HALF), (ZERO, HALF))
ALIKE = ((HALF,), (HALF,), (HALF,))

SETS = tuple(
    scattered(many, s, bottom=bottom, seed=seed)
    for many in range(1, 6) for s in (1, 2) for bottom, seed in ((17, many), (4, many + 1))
) + (TWO, THREE, SQUARE, ALIKE, ((HALF, HALF),) * 4, (((999999999998, 999999999999),), ((1, 999999999999),)))


def heave_plainly(points, order):
    """Tell the heave by the document's words."""
    return max(k * uneven_plainly([points[place] for place in order[:k]]) for k in range(1, len(order) + 1))


def told_of(points, number, thing):
    """Tell None where a thing is let by, else (path, word)."""
    try:
        told = lets_order(points, number, thing)
    except NoPaper as refusal:
        return (refusal.path, refusal.word)
    assert told is True, told
    return None


def is_set_plainly(many, thing):
    """Tell by the document's words whether a tuple is rising, of places."""
    return all(type(place) is int and 0 <= place < many for place in thing) and list(thing) == sorted(set(thing))


def step_plainly(points, number, sets, chosen, step):
    """Tell by the document's words what is amiss with a step to a set, or None."""
    if type(step) is not tuple or len(step) not in (0, 2):
        return "step"
    if step == ():
        return None if chosen in sets else "row"
    word, box = step
    if type(word) is not str or word not in ("over", "lack") or not is_corner_plainly(len(points[0]), box):
        return "step"
    some = tuple(points[place] for place in chosen)
    miss = over_of(some, box) if word == "over" else lack_of(some, box)
    return None if big(miss) * len(some) >= big(number) else word


def fault_plainly(points, number, thing):
    """Tell (path, word) by the document's words, or None."""
    if type(thing) is not tuple:
        return ((), "shape")
    sets = []
    for k, row in enumerate(thing):
        if type(row) is not tuple or len(row) != 2 or any(type(part) is not tuple for part in row):
            return ((k,), "shape")
        if not is_set_plainly(len(points), row[0]) or len(row[0]) == len(points) or row[0] in sets:
            return ((k,), "set")
        sets.append(row[0])
    if () not in sets:
        return ((), "begin")
    for k, (chosen, steps) in enumerate(thing):
        left = [place for place in range(len(points)) if place not in chosen]
        if len(steps) != len(left):
            return ((k,), "steps")
        for j, step in enumerate(steps):
            word = step_plainly(points, number, sets, tuple(sorted(chosen + (left[j],))), step)
            if word is not None:
                return ((k, j), word)
    return None


class HeaveTest(unittest.TestCase):
    def test_all_orders_of_few_points(self):
        for points in SETS:
            if len(points) <= 4:
                for order in permutations(range(len(points))):
                    told = heave(points, order)
                    self.assertEqual(told, small(heave_plainly(points, order)), (points, order))
                    self.assertTrue(is_fraction(told))

    def test_orders_of_six_points(self):
        for s in (1, 2):
            points = scattered(6, s)
            for order in list(permutations(range(6)))[::97]:
                self.assertEqual(heave(points, order), small(heave_plainly(points, order)))

    def test_examples(self):
        self.assertEqual(heave(((HALF,),), (0,)), (1, 2))
        self.assertEqual(heave(((ZERO,),), (0,)), (1, 1))
        self.assertEqual(heave(TWO, (0, 1)), (1, 1))
        self.assertEqual(heave(TWO, (1, 0)), (1, 1))
        self.assertEqual(heave(ALIKE, (2, 0, 1)), (3, 2))

    def test_the_first_points_not_the_last(self):
        points = scattered(4, 1, seed=5)
        unlike = [order for order in permutations(range(4)) if heave(points, order) != heave(points, order[::-1])]
        self.assertTrue(unlike)
        for order in unlike:
            self.assertEqual(heave(points, order[::-1]), small(heave_plainly(points, order[::-1])))


class BestTest(unittest.TestCase):
    def check(self, points):
        """Go through all orders one by one."""
        told = best_order(points)
        self.assertEqual((type(told), len(told)), (tuple, 3))
        number, order, paper = told
        self.assertEqual(number, small(self.least(points)), points)
        self.assertIs(type(order), tuple)
        self.assertEqual(sorted(order), list(range(len(points))))
        self.assertEqual(small(heave_plainly(points, order)), number)
        self.assertIs(lets_order(points, number, paper), True)
        self.assertIsNone(fault_plainly(points, number, paper))
        return told

    def least(self, points):
        """Tell the least heave of all orders, each beginning's unevenness worked out once."""
        known = {}

        def part(some):
            key = tuple(sorted(some))
            if key not in known:
                known[key] = len(key) * uneven_plainly([points[place] for place in key])
            return known[key]

        orders = permutations(range(len(points)))
        return min(max(part(order[:k]) for k in range(1, len(order) + 1)) for order in orders)

    def test_one_to_six_points(self):
        for points in SETS + (scattered(6, 1), scattered(6, 2), scattered(6, 2, bottom=3), scattered(6, 1, bottom=2, seed=4)):
            self.check(points)

    def test_five_points_whose_orders_differ(self):
        for s in (1, 2):
            for seed in range(2, 8):
                self.check(scattered(5, s, seed=seed))

    def test_examples(self):
        self.assertEqual(self.check(((HALF,),))[:2], ((1, 2), (0,)))
        self.assertEqual(self.check(TWO)[0], (1, 1))
        self.assertEqual(self.check(ALIKE)[0], (3, 2))
        self.assertEqual(self.check((((1, 4),), ((3, 4),), (HALF,)))[0], (3, 4))

    def test_papers_for_less_not_for_more(self):
        for points in SETS:
            number, order, paper = best_order(points)
            for less in (Fraction(0), Fraction(-1), Fraction(-HUGE)):
                self.assertIsNone(told_of(points, small(less), paper))
            for more in (big(number) + Fraction(1, HUGE), big(number) + 1, Fraction(HUGE)):
                fault = told_of(points, small(more), paper)
                self.assertEqual(fault, fault_plainly(points, small(more), paper))
                self.assertIn(fault[1], ("over", "lack"))


class CheckerTest(unittest.TestCase):
    def check(self, points, number, thing):
        fault = fault_plainly(points, number, thing)
        self.assertEqual(told_of(points, number, thing), fault, (points, number, thing))
        return fault

    def test_rows_in_other_orders(self):
        for points in SETS:
            number, order, paper = best_order(points)
            for rows in (paper[::-1], paper[1:] + paper[:1], tuple(sorted(paper)), paper[::2] + paper[1::2]):
                self.assertIsNone(self.check(points, number, rows))

    def test_rows_that_nothing_comes_to(self):
        points = THREE
        number, order, paper = best_order(points)
        have = [row[0] for row in paper]
        every = [(), (0,), (1,), (2,), (0, 1), (0, 2), (1, 2)]
        for chosen in every:
            if chosen not in have:
                box = (("to", (1, 1)),)
                fault = self.check(points, number, paper + ((chosen, (("over", box),) * (3 - len(chosen))),))
                self.assertEqual(fault, ((len(paper), 0), "over"))
        # With a number that all boxes pass, rows for all sets, or the void set alone.
        low = (-9, 1)
        box = (("to", HALF),)
        alone = (((), (("over", box), ("lack", box), ("over", box))),)
        self.assertIsNone(self.check(points, low, alone))
        self.assertIsNone(self.check(points, low, alone + (((0, 2), (("lack", box),)),)))
        self.assertIsNone(self.check(points, low, (((0, 2), (("lack", box),)),) + alone))
        everything = tuple((chosen, (("lack", box),) * (3 - len(chosen))) for chosen in every)
        self.assertIsNone(self.check(points, low, everything))
        ways = tuple((chosen, () if len(chosen) == 2 else ((),) * (3 - len(chosen))) for chosen in every)
        ways = tuple((chosen, steps or (("over", box),)) for chosen, steps in ways)
        self.assertIsNone(self.check(points, low, ways))

    def test_other_worst_boxes(self):
        for points in (THREE, SQUARE, scattered(4, 1), scattered(3, 2, bottom=4)):
            number, order, paper = best_order(points)
            for k, (chosen, steps) in enumerate(paper):
                left = [place for place in range(len(points)) if place not in chosen]
                for j, step in enumerate(steps):
                    if step != ():
                        some = tuple(points[place] for place in sorted(chosen + (left[j],)))
                        for other in all_worst(some, "corner"):
                            row = (chosen, steps[:j] + (other,) + steps[j + 1:])
                            self.assertIsNone(self.check(points, number, paper[:k] + (row,) + paper[k + 1:]))
                        for box in ((("to", (1, 1)),) * len(points[0]), (("to", (-1, 1)),) * len(points[0])):
                            for word in ("over", "lack"):
                                row = (chosen, steps[:j] + ((word, box),) + steps[j + 1:])
                                fault = self.check(points, number, paper[:k] + (row,) + paper[k + 1:])
                                self.assertEqual(fault, ((k, j), word))

    def test_altered_papers(self):
        for points in (TWO, THREE, SQUARE[:2], ALIKE[:2]):
            number, order, paper = best_order(points)
            for thing in altered(paper, (None, (), 0, True, "over", HUGE, ((), ()), ("over", ()), (0,))):
                self.check(points, number, thing)
                if isinstance(thing, tuple):
                    self.check(points, (-9, 1), thing)
                    self.check(points, number, thing[::-1])

    def test_shape_of_the_whole_ahead_of_rows(self):
        for thing in (None, 0, True, "", "rows", [], [((), ())], HUGE):
            self.assertEqual(self.check(TWO, ZERO, thing), ((), "shape"))
        self.assertEqual(self.check(TWO, ZERO, ()), ((), "begin"))

    def test_shape_and_set_row_by_row(self):
        void = ((), ((), ()))
        for row in (None, 0, "", [], (), ((),), ((), (), ()), [(), ()], ((), []), ([], ()), ((), None), (None, ()), ("", ""), ((), "")):
            self.assertEqual(self.check(TWO, ZERO, (row,)), ((0,), "shape"), row)
            self.assertEqual(self.check(TWO, ZERO, (void, row)), ((1,), "shape"), row)
            # A row's set ahead of the next row's shape.
            self.assertEqual(self.check(TWO, ZERO, (((5,), ()), row)), ((0,), "set"), row)
            self.assertEqual(self.check(TWO, ZERO, (row, ((5,), ()))), ((0,), "shape"), row)
        for chosen in (
            (2,), (-1,), (True,), (False,), (None,), ("0",), ((0,),), ([0],), (0, 1), (1, 0), (0, 0), (0, 1, 2), (HUGE,), (0, 0, 1),
            (1, 1), ((),), (0, True), (deep(20),),
        ):
            self.assertEqual(self.check(TWO, ZERO, ((chosen, ()),)), ((0,), "set"), chosen)
            self.assertEqual(self.check(TWO, ZERO, (void, (chosen, ()))), ((1,), "set"), chosen)
        for chosen in ((1, 0), (0, 0), (2, 1), (0, 1, 2), (2, 0), (0, 3), (0, 2, 1)):
            self.assertEqual(self.check(THREE, ZERO, (((), ((),) * 3), (chosen, ()))), ((1,), "set"), chosen)
        # A row twice.
        self.assertEqual(self.check(TWO, ZERO, (void, void)), ((1,), "set"))
        self.assertEqual(self.check(TWO, ZERO, (void, ((0,), ()), ((1,), ()), ((0,), ((),)))), ((3,), "set"))
        self.assertEqual(self.check(TWO, ZERO, (((0,), ()), void, void)), ((2,), "set"))

    def test_begin_ahead_of_all_steps(self):
        self.assertEqual(self.check(TWO, ZERO, (((0,), ()),)), ((), "begin"))
        self.assertEqual(self.check(TWO, ZERO, (((0,), (None,)), ((1,), ()))), ((), "begin"))
        self.assertEqual(self.check(TWO, ZERO, (((0,), (None,)), ((1, 0), ()))), ((1,), "set"))

    def test_steps(self):
        box = (("to", HALF),)
        good = ("over", box)
        for many in range(5):
            fault = self.check(THREE, (-9, 1), (((), (good,) * many),))
            self.assertEqual(fault, None if many == 3 else ((0,), "steps"))
        self.assertEqual(self.check(THREE, (-9, 1), (((), (None,) * 2),)), ((0,), "steps"))
        self.assertEqual(self.check(THREE, (-9, 1), (((), (good,) * 3), ((0, 1), ()))), ((1,), "steps"))
        self.assertEqual(self.check(THREE, (-9, 1), (((), (good, None, good)), ((0, 1), ()))), ((0, 1), "step"))
        self.assertEqual(self.check(THREE, (-9, 1), (((0, 1), ()), ((), (good, None, good)))), ((0,), "steps"))

    def test_step(self):
        box, high = (("to", HALF),), (("over", (("to", HALF),)),) * 2
        for step in (
            None, 0, True, "over", [], ["over", box], ("over",), ("over", box, box), ("Over", box), ("under", box), (None, box), (0, box),
            (["over"], box), (("over",), box), ("over", None), ("over", ()), ("over", box[0]), ("over", box + box), ("over", list(box)),
            ("lack", (("from", ZERO, HALF),)), ("lack", (("round", HALF, ZERO),)), ("lack", (("to", (2, 4)),)), ("lack", (("to", (3, 2)),)),
            ("lack", (["to", HALF],)), ("lack", (("to", [1, 2]),)), ("lack", (("to", (-3, 2)),)), ((),), ((), ()), ("row", box), (box, "over"),
        ):
            self.assertEqual(self.check(THREE, (-9, 1), (((), (step,) + high),)), ((0, 0), "step"), step)
            self.assertEqual(self.check(THREE, (-9, 1), (((), high + (step,)),)), ((0, 2), "step"), step)
        self.assertEqual(self.check(SQUARE, (-9, 1), (((), (("over", box),) * 3),)), ((0, 0), "step"))
        self.assertIsNone(self.check(SQUARE, (-9, 1), (((), (("over", box * 2),) * 3),)))

    def test_row(self):
        box = (("to", HALF),)
        good = ("over", box)
        self.assertEqual(self.check(THREE, (-9, 1), (((), (good, (), good)),)), ((0, 1), "row"))
        self.assertEqual(self.check(THREE, (-9, 1), (((), (good, (), good)), ((0,), (good, good)))), ((0, 1), "row"))
        self.assertIsNone(self.check(THREE, (-9, 1), (((), (good, (), good)), ((1,), (good, good)))))
        # A step () to all places leads to no row.
        self.assertEqual(self.check(TWO, (-9, 1), (((), ((), good)), ((0,), ((),)))), ((1, 0), "row"))
        self.assertEqual(self.check(((HALF,),), (-9, 1), (((), ((),)),)), ((0, 0), "row"))
        # The set with the place more, put in order: (0, 2) and 1 make (0, 1, 2), (1,) and 0 make (0, 1).
        self.assertIsNone(self.check(
            THREE, (-9, 1), (((), (good, (), good)), ((1,), ((), good)), ((0, 1), (good,)))))
        self.assertEqual(self.check(
            THREE, (-9, 1), (((), (good, (), good)), ((1,), ((), good)), ((0, 2), (good,)))), ((1, 0), "row"))

    def test_over_and_lack_at_their_edges(self):
        for points in (TWO, THREE, ALIKE):
            for t in ((-1, 2), ZERO, THIRD, HALF, (1, 1)):
                for word in ("over", "lack"):
                    steps = ((word, (("to", t),)),) * len(points)
                    for number in (Fraction(-1), Fraction(-1, 2), Fraction(0), Fraction(1, 3), Fraction(1, 2), Fraction(1), Fraction(1, 2) + Fraction(1, HUGE)):
                        self.check(points, small(number), (((), steps),))
        # The miss is taken so many times as the set with the place more has places.
        box = (("to", HALF),)
        paper = (((), ((), ("over", box))), ((0,), (("over", box),)))
        self.assertEqual(self.check(TWO, HALF, paper), None)
        self.assertEqual(self.check(TWO, (1, 1), paper), ((0, 1), "over"))
        self.assertEqual(self.check(TWO, (1, 1), (((), ((), ())), ((0,), (("over", box),)), ((1,), (("over", box),)))), None)
        self.assertEqual(
            self.check(TWO, (1000001, 1000000), (((), ((), ())), ((0,), (("over", box),)), ((1,), (("over", box),)))), ((1, 0), "over"))

    def test_no_paper_for_more_whoever_wrote_it(self):
        # All papers of the void set's row and perhaps those of one place each, with any of these steps.
        boxes = [(("to", t),) for t in (ZERO, HALF, (1, 1))]
        steps = [()] + [(word, box) for word in ("over", "lack") for box in boxes]
        least = big(best_order(TWO)[0])
        for one in steps:
            for other in steps:
                for third in steps:
                    for rows in ((((), (one, other)),), (((), (one, other)), ((0,), (third,))), (((), (one, other)), ((1,), (third,)))):
                        for number in (small(least), small(least + Fraction(1, 9))):
                            fault = self.check(TWO, number, rows)
                            self.assertFalse(fault is None and big(number) > least)

    def test_any_plain_thing(self):
        for thing in OTHER_THINGS + (deep(39), deep(40)):
            for points in (TWO, SQUARE):
                self.check(points, ZERO, thing)
                self.check(points, ZERO, (thing,))
                self.check(points, ZERO, ((thing, thing),))
                self.check(points, ZERO, (((), thing),))
                self.check(points, ZERO, (((), (thing, thing)),))
                self.check(points, ZERO, (((), (thing,) * 3),))
                self.check(points, ZERO, (((), (("over", thing),) * 3),))

    def test_told_papers_as_lists(self):
        number, order, paper = best_order(scattered(5, 2))
        points = scattered(5, 2)
        self.assertEqual(self.check(points, number, list(paper)), ((), "shape"))
        for k, (chosen, steps) in enumerate(paper):
            for row in ([chosen, steps], (list(chosen), steps), (chosen, list(steps))):
                self.assertEqual(self.check(points, number, paper[:k] + (row,) + paper[k + 1:]), ((k,), "shape"))

    def test_the_refusal(self):
        with self.assertRaises(NoPaper) as caught:
            lets_order(TWO, ZERO, (((), ((), None)),))
        self.assertIsInstance(caught.exception, EvenError)
        self.assertEqual((caught.exception.path, caught.exception.word), ((0, 0), "row"))


if __name__ == "__main__":
    unittest.main()
