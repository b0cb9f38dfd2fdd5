"""Points by steps, denominators, blocks and the step bound: points 51, 52 and 53."""

import unittest
from fractions import Fraction
from math import gcd

from evenpoints.fractions import is_fraction
from evenpoints.looks import unevenness
from evenpoints.points import is_points
from evenpoints.steps import blocks, denominators, step_bound, stepped
from things import big, small

STEPS = tuple((p, q) for q in range(1, 40) for p in range(q) if gcd(p, q) == 1)
GREAT = (
    (1, 10 ** 12 - 1), (10 ** 12 - 2, 10 ** 12 - 1), (381966011250, 10 ** 12 - 11), (618033988749, 999999999989),
    (267914296, 433494437), (333333333333, 999999999998), (500000000000, 999999999999),
)
GREAT = tuple(small(Fraction(*step)) for step in GREAT)


def denominators_plainly(step):
    """Tell the lower numbers of the step's continued fraction, each cut off after some quotients."""
    p, q = step
    quotients = []
    while p:
        quotients.append(q // p)
        p, q = q % p, p
    told = {1}
    for many in range(1, len(quotients) + 1):
        value = Fraction(quotients[many - 1])
        for quotient in reversed(quotients[:many - 1]):
            value = quotient + 1 / value
        told.add((1 / value).denominator)
    return tuple(sorted(told))


class SteppedTest(unittest.TestCase):
    def test_by_the_words(self):
        for start in ((0, 1), (1, 2), (2, 3), (999999999988, 999999999989)):
            for step in STEPS[::5] + GREAT:
                for many in (1, 2, 40):
                    told = stepped(start, step, many)
                    self.assertIs(is_points(1, told), True)
                    right = [(big(start) + n * big(step)) % 1 for n in range(many)]
                    self.assertEqual([big(x) for x, in told], right)

    def test_examples(self):
        self.assertEqual(stepped((0, 1), (2, 5), 4), (((0, 1),), ((2, 5),), ((4, 5),), ((1, 5),)))
        self.assertEqual(stepped((1, 2), (1, 2), 3), (((1, 2),), ((0, 1),), ((1, 2),)))
        self.assertEqual(stepped((1, 3), (0, 1), 2), (((1, 3),), ((1, 3),)))
        self.assertEqual(stepped((0, 1), (0, 1), 1), (((0, 1),),))
        self.assertEqual(stepped((2, 3), (2, 3), 3), (((2, 3),), ((1, 3),), ((0, 1),)))


class DenominatorsTest(unittest.TestCase):
    def test_examples(self):
        self.assertEqual(denominators((0, 1)), (1,))
        self.assertEqual(denominators((1, 7)), (1, 7))
        self.assertEqual(denominators((1, 2)), (1, 2))
        self.assertEqual(denominators((2, 3)), (1, 3))
        self.assertEqual(denominators((6, 7)), (1, 7))
        self.assertEqual(denominators((5, 7)), (1, 3, 7))
        self.assertEqual(denominators((8, 13)), (1, 2, 3, 5, 13))
        self.assertEqual(denominators((10, 23)), (1, 2, 7, 23))

    def test_by_the_continued_fraction(self):
        for step in STEPS + GREAT:
            told = denominators(step)
            self.assertIs(type(told), tuple)
            self.assertEqual(told, denominators_plainly(step), step)
            self.assertEqual(told[-1], step[1])
            self.assertEqual(list(told), sorted(set(told)))


class BlocksTest(unittest.TestCase):
    def right(self, step, many):
        told = []
        for denominator in reversed(denominators_plainly(step)):
            often = 0
            while often < many and (often + 1) * denominator <= many and denominator > 1:
                often += 1
            if denominator == 1:
                often = many
            many -= often * denominator
            if often:
                told.append((denominator, often))
        return tuple(told)

    def test_by_the_words(self):
        for step in STEPS[::3]:
            for many in (1, 2, 3, step[1], step[1] + 1, max(1, step[1] - 1), 2 * step[1], 40, 1000):
                told = blocks(step, many)
                self.assertEqual(told, self.right(step, many))
                self.assertEqual(sum(denominator * often for denominator, often in told), many)

    def test_examples(self):
        self.assertEqual(blocks((8, 13), 12), ((5, 2), (2, 1)))
        self.assertEqual(blocks((8, 13), 13), ((13, 1),))
        self.assertEqual(blocks((0, 1), 10 ** 9), ((1, 10 ** 9),))
        self.assertEqual(blocks((1, 2), 10 ** 9), ((2, 5 * 10 ** 8),))
        self.assertEqual(blocks((1, 7), 1), ((1, 1),))

    def test_great_ones(self):
        for step in GREAT:
            for many in (1, 999, 10 ** 6 + 7, 10 ** 9):
                told = blocks(step, many)
                self.assertEqual(sum(denominator * often for denominator, often in told), many)
                left = many
                for denominator, often in told:
                    self.assertIn(denominator, denominators(step))
                    self.assertEqual(left // denominator, often)
                    self.assertFalse([one for one in denominators(step) if denominator < one <= left])
                    left %= denominator


class BoundTest(unittest.TestCase):
    def test_by_the_words(self):
        for step in STEPS[::3] + GREAT:
            for many in (1, 2, 5, step[1], 40, 1000, 10 ** 9):
                told = step_bound(step, many)
                self.assertIs(is_fraction(told), True)
                often = sum(often for denominator, often in blocks(step, many))
                self.assertEqual(big(told), min(Fraction(2 * often, many), Fraction(1)))

    def test_examples(self):
        self.assertEqual(step_bound((8, 13), 1), (1, 1))
        self.assertEqual(step_bound((8, 13), 13), (2, 13))
        self.assertEqual(step_bound((8, 13), 12), (1, 2))
        self.assertEqual(step_bound((0, 1), 10 ** 9), (1, 1))
        self.assertEqual(step_bound((1, 10 ** 9 - 1), 10 ** 9), (1, 250000000))

    def test_no_box_is_missed_by_more(self):
        for step in STEPS[::23] + GREAT[2:5]:
            for start in ((0, 1), (5, 7)):
                for many in (1, 2, 7, 13, 33):
                    uneven = unevenness(stepped(start, step, many), "round")
                    self.assertLessEqual(big(uneven), big(step_bound(step, many)), (step, start, many))


if __name__ == "__main__":
    unittest.main()
