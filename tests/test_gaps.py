"""Neighbours and gaps: points 55 and 56, and point 5 of neighbours."""

import unittest
from fractions import Fraction
from math import gcd

from evenpoints.errors import EvenError, NoPaper
from evenpoints.fractions import is_fraction
from evenpoints.gapchecker import lets_neighbours
from evenpoints.gaps import gaps, neighbours, next_of
from things import HUGE, OTHER_THINGS, big, deep, small

STEPS = tuple((p, q) for q in range(2, 27) for p in range(1, q) if gcd(p, q) == 1)
GREAT = tuple(small(Fraction(*step)) for step in (
    (1, 10 ** 12 - 1), (10 ** 12 - 2, 10 ** 12 - 1), (381966011250, 999999999989), (618033988749, 999999999989),
    (1, 10 ** 6), (10 ** 6 - 1, 10 ** 6), (123456789, 10 ** 9 + 7), (500000000000, 999999999999), (999999, 10 ** 12 - 11),
))


def walk(step, many):
    """Tell the numbers of the points in the order in which they stand round the edge, from 0 on."""
    return sorted(range(many), key=lambda n: n * step[0] % step[1])


def gaps_plainly(step, many):
    """Count the gaps one by one."""
    order = walk(step, many)
    counts = {}
    for one, other in zip(order, order[1:] + order[:1]):
        length = Fraction((other - one) * step[0] % step[1], step[1])
        counts[length] = counts.get(length, 0) + 1
    return tuple((small(length), counts[length]) for length in sorted(counts))


def told_of(step, many, thing):
    """Tell None where a thing is let by, else (path, word)."""
    try:
        told = lets_neighbours(step, many, thing)
    except NoPaper as refusal:
        return (refusal.path, refusal.word)
    assert told is True, told
    return None


def fault_plainly(step, many, thing):
    """Tell (path, word) by the document's words, or None."""
    if not isinstance(thing, tuple) or len(thing) != 2:
        return ((), "shape")
    if any(isinstance(n, bool) or not isinstance(n, int) or not 1 <= n < many for n in thing):
        return ((), "shape")
    u, v = thing
    if u + v < many:
        return ((), "few")
    one = v * (u * big(step) % 1) + u * (1 - v * big(step) % 1)
    return None if one == 1 else ((), "round")


class NeighboursTest(unittest.TestCase):
    def test_by_a_walk(self):
        for step in STEPS:
            for many in range(2, step[1] + 1):
                order = walk(step, many)
                self.assertEqual(neighbours(step, many), (order[1], order[-1]), (step, many))
                self.assertEqual(gaps(step, many), gaps_plainly(step, many), (step, many))
                for one, other in zip(order, order[1:] + order[:1]):
                    self.assertEqual(next_of(step, many, one), other)

    def test_examples(self):
        self.assertEqual(neighbours((2, 5), 2), (1, 1))
        self.assertEqual(neighbours((2, 5), 3), (1, 2))
        self.assertEqual(neighbours((2, 5), 5), (3, 2))
        self.assertEqual(gaps((2, 5), 2), (((2, 5), 1), ((3, 5), 1)))
        self.assertEqual(gaps((2, 5), 3), (((1, 5), 1), ((2, 5), 2)))
        self.assertEqual(gaps((2, 5), 5), (((1, 5), 5),))
        self.assertEqual(gaps((1, 2), 2), (((1, 2), 2),))
        self.assertIs(type(neighbours((2, 5), 3)), tuple)

    def test_great_steps(self):
        for step in GREAT:
            for many in (2, 3, 1000, 54321):
                if many <= step[1]:
                    order = walk(step, many)
                    self.assertEqual(neighbours(step, many), (order[1], order[-1]))
                    self.assertEqual(gaps(step, many), gaps_plainly(step, many))
                    for place in (0, 1, many // 2, many - 2, many - 1):
                        self.assertEqual(next_of(step, many, order[place]), order[(place + 1) % many])

    def test_a_million(self):
        for step in GREAT:
            many = min(10 ** 6, step[1])
            u, v = neighbours(step, many)
            self.assertIs(lets_neighbours(step, many, (u, v)), True)
            self.check_gaps(step, many)

    def check_gaps(self, step, many):
        told = gaps(step, many)
        lengths = [big(length) for length, often in told]
        self.assertEqual(lengths, sorted(set(lengths)))
        self.assertTrue(all(is_fraction(length) for length, often in told))
        self.assertLessEqual(len(told), 3)
        if len(told) == 3:
            self.assertEqual(lengths[2], lengths[0] + lengths[1])
        self.assertEqual(sum(often for length, often in told), many)
        self.assertEqual(sum(big(length) * often for length, often in told), 1)
        self.assertTrue(all(often > 0 for length, often in told))

    def test_three_lengths_and_their_sums(self):
        for step in STEPS:
            for many in range(2, step[1] + 1):
                self.check_gaps(step, many)

    def test_without_a_walk(self):
        # A walk over all points of each of these would take hours.
        step = small(Fraction(618033988749, 999999999989))
        for n in range(0, 10 ** 6, 50):
            later = next_of(step, 10 ** 6, n)
            self.assertTrue(0 <= later < 10 ** 6)


class CheckerTest(unittest.TestCase):
    def test_all_pairs(self):
        for step in STEPS:
            if step[1] <= 14:
                for many in range(2, step[1] + 1):
                    right = neighbours(step, many)
                    for u in range(0, many + 2):
                        for v in range(0, many + 2):
                            fault = fault_plainly(step, many, (u, v))
                            self.assertEqual(told_of(step, many, (u, v)), fault)
                            self.assertIs(fault is None, (u, v) == right)

    def test_any_plain_thing(self):
        for step, many in (((2, 5), 2), ((2, 5), 4), ((1, 2), 2), ((8, 13), 9)):
            u, v = neighbours(step, many)
            for thing in OTHER_THINGS + (
                deep(39), [u, v], (u, v, 1), (u,), (u, [v]), ((u,), v), (u, None), ("1", v), (u, "1"), (True, v), (u, True), (True, True),
                (False, v), (-u, v), (u, -v), (0, v), (u, 0), (many, v), (u, many), (HUGE, v), (u, HUGE), (HUGE, HUGE), (u, v),
                ((u, v),), (u, (v, 1)), (1, many - 1), (many - 1, 1), (many - 1, many - 1), (1, 1),
            ):
                self.assertEqual(told_of(step, many, thing), fault_plainly(step, many, thing), (step, many, thing))

    def test_the_words_in_order(self):
        self.assertEqual(told_of((8, 13), 9, (0, 1)), ((), "shape"))
        self.assertEqual(told_of((8, 13), 9, (9, 8)), ((), "shape"))
        self.assertEqual(told_of((8, 13), 9, (1, 1)), ((), "few"))
        self.assertEqual(told_of((8, 13), 9, (8, 8)), ((), "round"))
        self.assertEqual(told_of((8, 13), 9, (3, 5)), ((), "few"))
        with self.assertRaises(NoPaper) as caught:
            lets_neighbours((8, 13), 9, None)
        self.assertIsInstance(caught.exception, EvenError)
        self.assertEqual((caught.exception.path, caught.exception.word), ((), "shape"))

    def test_great_ones(self):
        for step in GREAT:
            many = min(10 ** 6, step[1])
            u, v = neighbours(step, many)
            for thing in ((u, v), (v, u), (u - 1, v), (u, v - 1), (u + 1, v), (u, v + 1), (many - 1, many - 1), (1, many - 1)):
                self.assertEqual(told_of(step, many, thing), fault_plainly(step, many, thing))

    def test_a_list_that_is_asked_stays(self):
        thing = [3, [2]]
        self.assertEqual(told_of((2, 5), 5, thing), ((), "shape"))
        self.assertEqual(thing, [3, [2]])


if __name__ == "__main__":
    unittest.main()
