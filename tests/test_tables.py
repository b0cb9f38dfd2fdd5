"""Tables over a prime: points 60, 61 and 62."""

import unittest
from itertools import product

from evenpoints.tables import applied, combination, is_table, right_inverse, table_times
from own_tables import (
    PRIMES, all_tables, combined_plainly, is_table_plainly, some_table, times_plainly, unit,
)
from things import HUGE, OTHER_THINGS, deep

SIZES = ((1, 1), (1, 2), (1, 8), (2, 1), (8, 1), (2, 2), (2, 3), (3, 2), (3, 3), (5, 7), (7, 5), (8, 8))


class IsTableTest(unittest.TestCase):
    def check(self, p, rows, columns, thing):
        told = is_table(p, rows, columns, thing)
        self.assertIs(told, is_table_plainly(p, rows, columns, thing), (p, rows, columns, thing))
        return told

    def test_tables_of_each_size(self):
        for p in PRIMES:
            for rows, columns in SIZES:
                table = some_table(p, rows, columns, 1)
                self.assertTrue(self.check(p, rows, columns, table))
                for other_rows, other_columns in (
                    (rows + 1, columns), (rows, columns + 1), (rows - 1, columns), (rows, columns - 1),
                    (0, 0), (rows, 0), (0, columns), (columns, rows),
                ):
                    told = self.check(p, other_rows, other_columns, table)
                    self.assertIs(told, (other_rows, other_columns) == (rows, columns))

    def test_the_edges_of_figures(self):
        for p in PRIMES:
            for figure in range(-2, p + 2):
                self.assertIs(is_table(p, 1, 1, ((figure,),)), 0 <= figure < p)
                self.assertIs(is_table(p, 2, 2, ((0, 1), (1, figure))), 0 <= figure < p)
            for figure in (True, False, None, "0", "1", "", HUGE, -HUGE, (0,), [0], (), (0, 1)):
                self.assertIs(is_table(p, 1, 1, ((figure,),)), False)
                self.assertIs(is_table(p, 2, 2, ((0, 1), (figure, 1))), False)

    def test_lists_for_tuples_and_rows_of_other_lengths(self):
        for thing in (
            [(0, 1), (1, 0)], ([0, 1], (1, 0)), ((0, 1), [1, 0]), [[0, 1], [1, 0]], ((0, 1), (1,)), ((0,), (1, 0)),
            ((0, 1), (1, 0, 1)), ((0, 1),), ((0, 1), (1, 0), (1, 1)), ((0, 1), ()), ((), ()), ((),), (), (0, 1), ((0, 1), 1),
            ((0, 1), None), ((0, 1), "01"), ("01", "10"), "0110", (((0, 1), (1, 0)),), ((0, 1), ((1, 0),)),
        ):
            for p in PRIMES:
                self.assertIs(is_table(p, 2, 2, thing), False, thing)
                for rows, columns in product(range(4), repeat=2):
                    self.check(p, rows, columns, thing)

    def test_no_rows_and_no_columns(self):
        for p in PRIMES:
            self.assertIs(is_table(p, 0, 0, ()), False)
            self.assertIs(is_table(p, 0, 1, ()), False)
            self.assertIs(is_table(p, 1, 0, ((),)), False)
            self.assertIs(is_table(p, 2, 0, ((), ())), False)

    def test_any_plain_thing(self):
        for thing in OTHER_THINGS + (deep(39), deep(40)):
            for p in PRIMES:
                for rows, columns in product(range(4), repeat=2):
                    self.check(p, rows, columns, thing)


class SumsTest(unittest.TestCase):
    def test_applied(self):
        for p in PRIMES:
            for rows, columns in SIZES:
                for seed in range(4):
                    table = some_table(p, rows, columns, seed)
                    figures = some_table(p, 1, columns, f"figures {seed}")[0]
                    told = applied(p, table, figures)
                    plainly = times_plainly(p, table, tuple((figure,) for figure in figures))
                    self.assertEqual(told, tuple(row[0] for row in plainly))
                    self.assertIs(type(told), tuple)

    def test_applied_to_noughts_and_units(self):
        for p in PRIMES:
            table = some_table(p, 5, 4, 3)
            self.assertEqual(applied(p, table, (0,) * 4), (0,) * 5)
            for column, figures in enumerate(unit(4)):
                self.assertEqual(applied(p, table, figures), tuple(row[column] for row in table))
        self.assertEqual(applied(7, ((6, 5), (1, 6)), (3, 4)), (3, 6))
        self.assertEqual(applied(2, ((1, 1, 1),), (1, 1, 1)), (1,))

    def test_times(self):
        for p in PRIMES:
            for rows, columns in SIZES:
                for other_columns in (1, 2, 5, 8):
                    one = some_table(p, rows, columns, "one")
                    other = some_table(p, columns, other_columns, "other")
                    told = table_times(p, one, other)
                    self.assertEqual(told, times_plainly(p, one, other))
                    self.assertTrue(is_table(p, rows, other_columns, told))
                self.assertEqual(table_times(p, unit(rows), one), one)
                self.assertEqual(table_times(p, one, unit(columns)), one)

    def test_times_is_not_turned_about(self):
        self.assertEqual(table_times(5, ((1, 2), (3, 4)), ((0, 1), (1, 0))), ((2, 1), (4, 3)))
        self.assertEqual(table_times(5, ((0, 1), (1, 0)), ((1, 2), (3, 4))), ((3, 4), (1, 2)))
        self.assertEqual(table_times(3, ((1, 2),), ((2,), (2,))), ((0,),))


class InverseTest(unittest.TestCase):
    def check(self, p, table):
        """Look at what is told by the document's own sums; tell whether there is a right inverse."""
        inverse, figures = right_inverse(p, table), combination(p, table)
        rows, columns = len(table), len(table[0])
        if figures is None:
            self.assertTrue(is_table_plainly(p, columns, rows, inverse), (p, table))
            self.assertEqual(times_plainly(p, table, inverse), unit(rows), (p, table))
            return True
        self.assertIsNone(inverse, (p, table))
        self.assertTrue(is_table_plainly(p, 1, rows, (figures,)), (p, table))
        self.assertTrue(any(figures), (p, table))
        self.assertEqual(combined_plainly(p, table, figures), (0,) * columns, (p, table))
        return False

    def test_all_small_tables(self):
        for p, rows, columns in (
            (2, 1, 1), (3, 1, 1), (5, 1, 1), (7, 1, 1), (2, 1, 3), (2, 3, 1), (2, 2, 2), (2, 2, 3), (2, 3, 2), (2, 3, 3),
            (3, 2, 2), (3, 2, 3), (3, 3, 2), (5, 2, 2), (7, 1, 2), (7, 2, 1),
        ):
            for table in all_tables(p, rows, columns):
                self.check(p, table)

    def test_how_many_have_an_inverse(self):
        # Of all square tables as many as rows can be chosen none of which hangs on those ahead.
        for p, many in ((2, 3), (3, 2), (5, 2)):
            chosen = 1
            for k in range(many):
                chosen *= p ** many - p ** k
            self.assertEqual(sum(self.check(p, table) for table in all_tables(p, many, many)), chosen)

    def test_tables_of_each_size(self):
        for p in PRIMES:
            for rows, columns in SIZES + ((3, 8), (8, 3), (7, 8), (8, 7)):
                for seed in range(6):
                    told = self.check(p, some_table(p, rows, columns, seed))
                    self.assertFalse(told and rows > columns)

    def test_unit_tables(self):
        for p in PRIMES:
            for many in range(1, 9):
                self.assertEqual(right_inverse(p, unit(many)), unit(many))
                self.assertIsNone(combination(p, unit(many)))

    def test_tables_whose_rows_hang_together(self):
        for p in PRIMES:
            for columns in (1, 2, 3, 8):
                rows = unit(columns)
                for table in (
                    ((0,) * columns,), rows[:1] + ((0,) * columns,), ((0,) * columns,) + rows[:1], rows[:1] * 2, rows + rows[-1:],
                    rows[:-1] + (rows[0],) * 2, rows + ((1,) * columns,), ((p - 1,) * columns,) + rows,
                    rows[:3] + (tuple(sum(row[k] * (i + 1) for i, row in enumerate(rows[:3])) % p for k in range(columns)),),
                    ((1,) * columns, (p - 1,) * columns),
                ):
                    self.assertFalse(self.check(p, table), (p, table))

    def test_more_rows_than_columns(self):
        for p in PRIMES:
            for rows in range(2, 9):
                for columns in range(1, rows):
                    self.assertFalse(self.check(p, some_table(p, rows, columns, 5)))

    def test_eight_rows_none_of_which_hangs_on_the_others(self):
        for p in PRIMES:
            # Rows of ones from a place on, and rows with their places turned about.
            slanted = tuple(tuple(int(k >= i) * (1 + (i + k) % (p - 1)) % p for k in range(8)) for i in range(8))
            turned = tuple(row[3:] + row[:3] for row in (slanted[5:] + slanted[:5]))
            mixed = times_plainly(p, turned, tuple(zip(*slanted)))
            for table in (slanted, turned, mixed, slanted[::-1], unit(8)[::-1]):
                self.assertTrue(self.check(p, table), (p, table))
                self.assertEqual(times_plainly(p, right_inverse(p, table), table), unit(8))
                self.assertFalse(self.check(p, table[:7] + (table[0],)))
                self.assertTrue(self.check(p, table[:5]))

    def test_asked_again(self):
        table = some_table(5, 4, 6, 1)
        told = right_inverse(5, table)
        right_inverse(5, some_table(5, 3, 3, 2))
        self.check(5, some_table(7, 4, 6, 3))
        self.assertEqual(right_inverse(5, table), told)


if __name__ == "__main__":
    unittest.main()
