"""The strength of tables, beginnings, tables of full strength, the net bound: points 70 to 73."""

import unittest
from fractions import Fraction
from math import comb

from evenpoints.errors import EvenError, NoUpper
from evenpoints.fractions import is_below, is_fraction
from evenpoints.looks import many_looks, unevenness
from evenpoints.nets import is_tables, points_of_tables
from evenpoints.strength import beginning, mirrored_tables, net_bound, strength, sum_tables
from own_tables import (
    PRIMES, PRIMES_AND_ROWS, all_tables, is_net_plainly, points_plainly, some_table, some_tables, strength_plainly, unit,
)
from things import big, small


def bound_plainly(p, s, w):
    """Tell the net bound by the document's words, from one side up."""
    row = [1] * (w + 1)
    for _ in range(s - 1):
        row = [1 + (p - 1) * sum(row[:v]) for v in range(w + 1)]
    return small(min(Fraction(row[w], p ** w), Fraction(1)))


def raised(p, table):
    """Make a table nought below the diagonal."""
    return tuple(tuple(figure if k >= i else 0 for k, figure in enumerate(row)) for i, row in enumerate(table))


class StrengthTest(unittest.TestCase):
    def test_by_counts(self):
        for p, m in PRIMES_AND_ROWS:
            for s in range(1, 5):
                for seed in range(3):
                    tables = some_tables(p, m, s, f"strength {seed}")
                    self.assertEqual(strength(p, tables), strength_plainly(p, tables), (p, tables))

    def test_all_tables_of_two_rows(self):
        found = set()
        for one in all_tables(2, 2, 2):
            for other in all_tables(2, 2, 2)[::3]:
                told = strength(2, (one, other))
                self.assertEqual(told, strength_plainly(2, (one, other)))
                found.add(told)
        self.assertEqual(found, {0, 1, 2})

    def test_each_strength(self):
        for p, m in PRIMES_AND_ROWS:
            for w in range(m + 1):
                # The first w rows are as in the unit table, then one of noughts.
                table = unit(m)[:w] + ((0,) * m,) * (m - w)
                self.assertEqual(strength(p, (table,)), w)
                self.assertEqual(strength(p, (unit(m), table)), min(w, 1))
                self.assertEqual(strength(p, (table, unit(m)[::-1])), w)

    def test_a_net_of_each_lesser_strength(self):
        for p, m in PRIMES_AND_ROWS:
            for seed in range(3):
                tables = some_tables(p, m, 2, f"lesser {seed}")
                told = strength(p, tables)
                for w in range(1, m + 1):
                    self.assertIs(is_net_plainly(p, tables, w), w <= told)


class BeginningTest(unittest.TestCase):
    def test_the_first_points(self):
        for p, m in PRIMES_AND_ROWS:
            for s in range(1, 5):
                tables = tuple(raised(p, table) for table in some_tables(p, m, s, "beginning"))
                points = points_plainly(p, tables)
                for k in range(1, m + 1):
                    told = beginning(tables, k)
                    self.assertIs(is_tables(p, told), True)
                    self.assertEqual(told, tuple(tuple(row[:k] for row in table[:k]) for table in tables))
                    self.assertEqual(points_of_tables(p, told), points[:p ** k])
                self.assertEqual(beginning(tables, m), tables)

    def check_refused(self, tables, number):
        for k in range(1, len(tables[0]) + 1):
            with self.assertRaises(NoUpper) as caught:
                beginning(tables, k)
            self.assertIsInstance(caught.exception, EvenError)
            self.assertEqual(caught.exception.number, number)

    def test_the_first_table_that_is_not_so(self):
        for m in range(2, 6):
            good = unit(m)
            for i in range(1, m):
                for k in range(i):
                    bad = good[:i] + (good[i][:k] + (1,) + good[i][k + 1:],) + good[i + 1:]
                    self.check_refused((bad,), 0)
                    self.check_refused((bad, good, bad), 0)
                    self.check_refused((good, bad), 1)
                    self.check_refused((good, good, bad, bad), 2)
                    self.check_refused((good, good, good, bad), 3)
            self.assertEqual(beginning((good,) * 4, 1), (((1,),),) * 4)
        # What stands on the diagonal and above it may be anything.
        self.assertEqual(beginning((((0, 6), (0, 0)),), 1), (((0,),),))
        self.assertEqual(beginning((((5,),),), 1), (((5,),),))

    def test_mirrored_tables_have_no_beginning(self):
        for p, m in PRIMES_AND_ROWS:
            if m > 1:
                self.check_refused(mirrored_tables(p, m, 2), 0)
                self.check_refused(mirrored_tables(p, m, 2)[::-1], 1)


class FullTest(unittest.TestCase):
    def test_sum_tables_figure_by_figure(self):
        for p, m in PRIMES_AND_ROWS:
            for s in range(1, min(4, p) + 1):
                told = sum_tables(p, m, s)
                self.assertIs(is_tables(p, told), True)
                self.assertEqual(len(told), s)
                for j, table in enumerate(told):
                    for i, row in enumerate(table):
                        for k, figure in enumerate(row):
                            self.assertEqual(figure, comb(k, i) * j ** (k - i) % p if i <= k else 0)
        self.assertEqual(sum_tables(2, 3, 2), (unit(3), ((1, 1, 1), (0, 1, 0), (0, 0, 1))))

    def test_sum_tables_and_their_beginnings_have_full_strength(self):
        for p, m in PRIMES_AND_ROWS:
            for s in range(1, min(4, p) + 1):
                told = sum_tables(p, m, s)
                self.assertEqual(strength(p, told), m)
                self.assertTrue(is_net_plainly(p, told, m))
                for k in range(1, m + 1):
                    self.assertEqual(strength(p, beginning(told, k)), k)
                    self.assertEqual(beginning(told, k), sum_tables(p, k, s))

    def test_mirrored_tables(self):
        for p, m in PRIMES_AND_ROWS:
            for s in range(2, min(4, p + 1) + 1):
                told = mirrored_tables(p, m, s)
                self.assertIs(is_tables(p, told), True)
                self.assertEqual(told[1:], sum_tables(p, m, s - 1))
                self.assertEqual(told[0], unit(m)[::-1])
                self.assertEqual(strength(p, told), m)
                self.assertTrue(is_net_plainly(p, told, m))
        self.assertEqual(mirrored_tables(3, 2, 2), (((0, 1), (1, 0)), ((1, 0), (0, 1))))


class BoundTest(unittest.TestCase):
    def test_by_the_documents_words(self):
        for p in PRIMES:
            for s in range(1, 5):
                for w in range(13):
                    told = net_bound(p, s, w)
                    self.assertEqual(told, bound_plainly(p, s, w), (p, s, w))
                    self.assertTrue(is_fraction(told))

    def test_one_side_no_strength_at_most_one(self):
        for p in PRIMES:
            for w in range(13):
                self.assertEqual(net_bound(p, 1, w), (1, p ** w))
            for s in range(1, 5):
                self.assertEqual(net_bound(p, s, 0), (1, 1))
        self.assertEqual(net_bound(2, 2, 5), (3, 16))
        self.assertEqual(net_bound(2, 3, 1), (1, 1))
        self.assertEqual(net_bound(7, 2, 1), (1, 1))
        self.assertEqual(net_bound(7, 3, 2), (1, 1))
        self.assertEqual(net_bound(3, 2, 2), (5, 9))

    def test_no_corner_unevenness_is_above_it(self):
        looked = 0
        for p, m in PRIMES_AND_ROWS:
            nets = [sum_tables(p, m, s) for s in range(1, min(4, p) + 1)]
            nets += [mirrored_tables(p, m, s) for s in range(2, min(4, p + 1) + 1)]
            nets += [some_tables(p, m, s, f"bound {s}") for s in range(1, 4)]
            nets.append((unit(m), some_table(p, m, m, "bound")))
            for tables in nets:
                points = points_of_tables(p, tables)
                if many_looks(points, "corner") <= 3000:
                    told = strength(p, tables)
                    bound = net_bound(p, len(tables), told)
                    self.assertFalse(is_below(bound, unevenness(points, "corner")), (p, tables))
                    # A net is one of each lesser strength, whose bounds are no less.
                    for w in range(told):
                        self.assertLessEqual(big(bound), big(net_bound(p, len(tables), w)))
                    looked += 1
        self.assertGreater(looked, 50)


if __name__ == "__main__":
    unittest.main()
