"""Nets, their papers and void boxes: points 63 to 68, and point 5 of net papers."""

import unittest
from fractions import Fraction
from itertools import product

from evenpoints.boxes import inside, is_box, is_of
from evenpoints.errors import EvenError, NoNet
from evenpoints.netchecker import lets_net, void_box
from evenpoints.netpapers import net_paper
from evenpoints.nets import is_tables, points_of_tables, rows_of, shape_box, shapes_of
from evenpoints.points import is_points
from evenpoints.strength import mirrored_tables, sum_tables
from own_tables import (
    PRIMES, PRIMES_AND_ROWS, all_tables, boxes_plainly, count_plainly, fault_plainly, is_net_plainly, points_plainly,
    rows_plainly, shapes_plainly, some_table, some_tables, times_plainly, unit,
)
from things import HUGE, OTHER_THINGS, deep, small

UNITS = (unit(2), unit(2))
CROSSED = (unit(2), unit(2)[::-1])
NOUGHTS = ((0, 0), (0, 0))


def told_of(p, tables, w, thing):
    """Tell None where a thing is let by, else (word, number)."""
    try:
        told = lets_net(p, tables, w, thing)
    except NoNet as refusal:
        return (refusal.word, refusal.number)
    assert told is True, told
    return None


def many_tables():
    """Make tables of each prime, of each count of rows and sides, of all sorts of strength."""
    some = [(p, some_tables(p, m, s, seed)) for p, m in PRIMES_AND_ROWS for s in range(1, 5) for seed in range(3)]
    for p, m in PRIMES_AND_ROWS:
        for s in range(1, min(4, p) + 1):
            some.append((p, sum_tables(p, m, s)))
        for s in range(2, min(4, p + 1) + 1):
            some.append((p, mirrored_tables(p, m, s)))
            some.append((p, mirrored_tables(p, m, s)[:-1] + (unit(m),)))
        some.append((p, (unit(m),) * 2))
        some.append((p, (((0,) * m,) * m,)))
        some.append((p, (unit(m), unit(m)[:-1] + ((0,) * m,), unit(m)[::-1])))
    return tuple(some)


MANY = many_tables()


class IsTablesTest(unittest.TestCase):
    def test_tables_of_each_sort(self):
        for p, tables in MANY:
            self.assertIs(is_tables(p, tables), True)
            self.assertIs(is_tables(p, list(tables)), False)
            self.assertIs(is_tables(p, tables[:-1] + (list(tables[-1]),)), False)
            self.assertIs(is_tables(p, tables[:-1] + ((list(tables[-1][0]),) + tables[-1][1:],)), False)
            self.assertIs(is_tables(p, (tables[-1],) * 4), True)
            self.assertIs(is_tables(p, (tables[-1],) * 5), False)

    def test_none_and_five_tables(self):
        self.assertIs(is_tables(2, ()), False)
        for many in range(1, 7):
            self.assertIs(is_tables(2, (unit(2),) * many), many <= 4)

    def test_the_power_at_forty_and_above(self):
        # No power of these primes is 40 itself; the nearest ones below and above are looked at.
        for p in PRIMES:
            for m in range(1, 9):
                for s in (1, 4):
                    self.assertIs(is_tables(p, (unit(m),) * s), p ** m <= 40, (p, m))
        self.assertEqual([p ** m for p, m in PRIMES_AND_ROWS], [2, 4, 8, 16, 32, 3, 9, 27, 5, 25, 7])

    def test_other_rows_and_columns(self):
        for thing in (
            (unit(2), unit(3)), (unit(3), unit(2)), (some_table(2, 2, 3, 1),), (some_table(2, 3, 2, 1),),
            (unit(2), some_table(2, 2, 1, 1)), (unit(2), some_table(2, 1, 2, 1)), (unit(2), ()), ((), unit(2)), ((),), ((), ()),
            ((((),),),), (unit(2), None), (None,), ("10",), (unit(2), "10"), (unit(2), 1), unit(2), (unit(2), ((1, 0), 1)),
            (((1, 0), (0, 2)),), (((1, 0), (0, -1)),), (((True, 0), (0, 1)),), (((1, False), (0, 1)),), (((1, None), (0, 1)),),
            (unit(2), ((1, 0), (0, 2))), (unit(2), ((1, 0), (0, HUGE))), (((),) * 2,), (((),) * 19000,), (((0,),) * 19000,),
        ):
            self.assertIs(is_tables(2, thing), False, thing)

    def test_any_plain_thing(self):
        for thing in OTHER_THINGS + (deep(39), deep(40)):
            for p in PRIMES:
                self.assertIs(is_tables(p, thing), False, thing)
        # A row of one figure, within a table, within tables.
        self.assertIs(is_tables(2, (((1,),),)), True)
        self.assertIs(is_tables(7, (((6,),), ((0,),))), True)
        self.assertIs(is_tables(5, (((5,),), ((0,),))), False)

    def test_figures_below_the_prime(self):
        for p in PRIMES:
            for figure in range(-1, p + 2):
                self.assertIs(is_tables(p, (((figure,),),)), 0 <= figure < p)
                self.assertIs(is_tables(p, (((1,),), ((figure,),))), 0 <= figure < p)


class PointsTest(unittest.TestCase):
    def test_by_the_documents_words(self):
        for p, tables in MANY:
            told = points_of_tables(p, tables)
            self.assertEqual(told, points_plainly(p, tables))
            self.assertTrue(is_points(len(tables), told))
            self.assertEqual(len(told), p ** len(tables[0]))

    def test_examples(self):
        self.assertEqual(points_of_tables(2, (unit(2),)), (((0, 1),), ((1, 2),), ((1, 4),), ((3, 4),)))
        self.assertEqual(points_of_tables(2, (unit(2)[::-1],)), (((0, 1),), ((1, 4),), ((1, 2),), ((3, 4),)))
        self.assertEqual(points_of_tables(3, (((1,),), ((2,),))), (((0, 1), (0, 1)), ((1, 3), (2, 3)), ((2, 3), (1, 3))))
        self.assertEqual(points_of_tables(7, (((0,),),)), (((0, 1),),) * 7)


class ShapesTest(unittest.TestCase):
    def test_shapes(self):
        for many in range(1, 5):
            for w in range(1, 7):
                told = shapes_of(many, w)
                self.assertEqual(told, shapes_plainly(many, w))
                self.assertEqual(told, sorted(set(told)))
                self.assertIs(type(told), list)
                self.assertTrue(all(type(shape) is tuple for shape in told))
        self.assertEqual(shapes_of(2, 2), [(0, 2), (1, 1), (2, 0)])
        self.assertEqual(shapes_of(1, 5), [(5,)])

    def test_the_told_list_may_be_changed(self):
        told = shapes_of(3, 2)
        kept = list(told)
        told.reverse()
        told.append(None)
        told[0] = "changed"
        self.assertEqual(shapes_of(3, 2), kept)
        one = shapes_of(1, 4)
        one.clear()
        self.assertEqual(shapes_of(1, 4), [(4,)])

    def test_rows_of_a_shape(self):
        for p, tables in MANY:
            for w in range(1, len(tables[0]) + 1):
                for shape in shapes_of(len(tables), w):
                    told = rows_of(tables, shape)
                    self.assertEqual(told, rows_plainly(tables, shape))
                    self.assertEqual((type(told), len(told)), (tuple, w))
        self.assertEqual(rows_of((unit(3), unit(3)[::-1]), (2, 1)), ((1, 0, 0), (0, 1, 0), (0, 0, 1)))
        self.assertEqual(rows_of((unit(3), unit(3)[::-1]), (0, 2)), ((0, 0, 1), (0, 1, 0)))

    def test_shape_boxes(self):
        for p in PRIMES:
            for s in range(1, 5):
                for w in range(1, 4 if p < 5 else 3):
                    for shape in shapes_plainly(s, w):
                        boxes = [shape_box(p, shape, figures) for figures in product(range(p), repeat=w)]
                        # The highest place first, so they go in the order of their figures.
                        plainly = [
                            tuple(("from", small(a), small(b)) for a, b in ends) for ends in boxes_plainly(p, shape)]
                        self.assertEqual(boxes, plainly)

    def test_a_shape_with_0(self):
        self.assertEqual(shape_box(3, (0, 2), (1, 2)), (("from", (0, 1), (1, 1)), ("from", (5, 9), (2, 3))))
        self.assertEqual(shape_box(3, (2, 0), (2, 2)), (("from", (8, 9), (1, 1)), ("from", (0, 1), (1, 1))))
        self.assertEqual(
            shape_box(2, (1, 0, 2), (1, 0, 1)), (("from", (1, 2), (1, 1)), ("from", (0, 1), (1, 1)), ("from", (1, 4), (1, 2))))

    def test_a_point_lies_in_the_box_of_its_figures(self):
        for p, tables in MANY[::3]:
            m, points = len(tables[0]), points_of_tables(p, tables)
            for w in range(1, m + 1):
                for shape in shapes_of(len(tables), w)[::2]:
                    rows = rows_of(tables, shape)
                    counts = {}
                    for n in range(p ** m):
                        told = tuple(sum(row[k] * (n // p ** k % p) for k in range(m)) % p for row in rows)
                        counts[told] = counts.get(told, 0) + 1
                        self.assertEqual(inside(points[n:n + 1], shape_box(p, shape, told), "half"), 1)
                    for told in counts:
                        self.assertEqual(inside(points, shape_box(p, shape, told), "half"), counts[told])


class PaperTest(unittest.TestCase):
    def test_told_papers_are_let_by_and_so_by_counts(self):
        for p, tables in MANY:
            for w in range(1, len(tables[0]) + 1):
                paper = net_paper(p, tables, w)
                self.assertIs(lets_net(p, tables, w, paper), True)
                self.assertIsNone(fault_plainly(p, tables, w, paper))
                self.assertIs(paper[0] == "net", is_net_plainly(p, tables, w), (p, tables, w))
                self.check_counts(p, tables, w, paper)

    def check_counts(self, p, tables, w, paper):
        """Count the points of all shape boxes, or of the void one."""
        points = points_plainly(p, tables)
        if paper[0] == "net":
            for shape in shapes_plainly(len(tables), w):
                counts = {count_plainly(points, ends) for ends in boxes_plainly(p, shape)}
                self.assertEqual(counts, {p ** (len(tables[0]) - w)})
        else:
            self.check_void(p, tables, w, paper)

    def check_void(self, p, tables, w, paper):
        """Look whether the void box is a shape box of the paper's shape, without a point."""
        box = void_box(p, tables, paper)
        self.assertTrue(is_box(len(tables), box) and is_of("inner", box))
        ends = tuple((Fraction(*a), Fraction(*b)) for word, a, b in box)
        self.assertIn(ends, boxes_plainly(p, paper[1]))
        self.assertEqual(count_plainly(points_plainly(p, tables), ends), 0)

    def test_all_tables_of_two_rows(self):
        for one, other in product(all_tables(2, 2, 2), repeat=2):
            for w in (1, 2):
                paper = net_paper(2, (one, other), w)
                self.assertIsNone(fault_plainly(2, (one, other), w, paper))
                self.assertIs(paper[0] == "net", is_net_plainly(2, (one, other), w))
                self.check_counts(2, (one, other), w, paper)

    def test_examples(self):
        self.assertEqual(net_paper(2, UNITS, 1)[0], "net")
        self.assertEqual(net_paper(2, UNITS, 2)[:2], ("none", (1, 1)))
        self.assertEqual(net_paper(2, CROSSED, 2)[0], "net")
        self.assertEqual(net_paper(2, (NOUGHTS,), 1)[0], "none")

    def test_every_void_box_of_all_papers_that_are_let_by(self):
        for p, tables in MANY[::4]:
            for w in range(1, min(3, len(tables[0])) + 1):
                for shape in shapes_plainly(len(tables), w):
                    for figures in product(range(p), repeat=w):
                        paper = ("none", shape, figures)
                        fault = fault_plainly(p, tables, w, paper)
                        self.assertEqual(told_of(p, tables, w, paper), fault)
                        if fault is None:
                            self.check_void(p, tables, w, paper)
                            self.assertFalse(is_net_plainly(p, tables, w))


class CheckerTest(unittest.TestCase):
    def check(self, p, tables, w, thing):
        fault = fault_plainly(p, tables, w, thing)
        self.assertEqual(told_of(p, tables, w, thing), fault, (p, tables, w, thing))
        return fault

    def test_other_right_inverses_are_let_by(self):
        tables = (unit(3), unit(3)[::-1])
        found = 0
        for inverses in product(all_tables(2, 3, 1), repeat=2):
            found += self.check(2, tables, 1, ("net", inverses)) is None
        # A row with one 1 leaves two figures of its inverse free.
        self.assertEqual(found, 16)

    def test_all_inverses_of_a_small_net(self):
        faults = [self.check(2, CROSSED, 1, ("net", inverses)) for inverses in product(all_tables(2, 2, 1), repeat=2)]
        self.assertEqual(faults.count(None), 4)
        self.assertEqual(faults.count(("inverse", 0)), 8)
        self.assertEqual(faults.count(("inverse", 1)), 4)

    def test_one_inverse_amiss(self):
        for p, tables in MANY:
            for w in range(1, len(tables[0]) + 1):
                paper = net_paper(p, tables, w)
                if paper[0] == "net":
                    for k in range(len(paper[1])):
                        row = paper[1][k][0]
                        for broken in (
                            tuple(tuple((figure + 1) % p for figure in line) for line in paper[1][k]),
                            ((((row[0] + 1) % p,) + row[1:]),) + paper[1][k][1:],
                            ((0,) * w,) * len(tables[0]),
                        ):
                            self.check(p, tables, w, ("net", paper[1][:k] + (broken,) + paper[1][k + 1:]))
                    noughts = ((0,) * w,) * len(tables[0])
                    thing = ("net", (paper[1][0],) + (noughts,) * (len(paper[1]) - 1))
                    fault = None if len(paper[1]) == 1 else ("inverse", 1)
                    self.assertEqual(self.check(p, tables, w, thing), fault)
                    last = ("net", paper[1][:-1] + (noughts,))
                    self.assertEqual(self.check(p, tables, w, last), ("inverse", len(paper[1]) - 1))

    def test_left_inverses_are_none(self):
        # The table times what is told, not what is told times the table.
        tables = (((1, 1), (0, 1)),)
        self.assertIsNone(self.check(3, tables, 2, ("net", (((1, 2), (0, 1)),))))
        wide = (((1, 0, 0), (1, 1, 0), (0, 0, 1)),)
        for inverse in all_tables(2, 3, 2):
            fault = self.check(2, wide, 2, ("net", (inverse,)))
            self.assertIs(fault is None, times_plainly(2, wide[0][:2], inverse) == unit(2))

    def test_shape_ahead_of_all(self):
        good = net_paper(2, CROSSED, 2)[1]
        broken = ((0, 0), (0, 0))
        self.assertEqual(len(good), 3)
        for inverses in (
            good[:2], good + good[:1], (), None, list(good), (broken, good[1], None), (broken, good[1], list(good[2])),
            (broken, good[1], ((1, 0), [0, 1])), (broken, good[1], ((1, 0), (0, 2))), (broken, good[1], ((1, 0), (0, True))),
            (broken, good[1], ((1, 0),)), (broken, good[1], ((1, 0), (0, 1), (0, 0))), (broken, good[1], ((1,), (0,))),
            (broken, good[1], ((1, 0), (0, -1))), (broken, good[1], ((1, 0), (0, HUGE))), good[0], "good", 3, (good,),
        ):
            self.assertEqual(self.check(2, CROSSED, 2, ("net", inverses)), ("shape", 0), inverses)
        self.assertEqual(self.check(2, CROSSED, 2, ("net", (broken, broken, good[2]))), ("inverse", 0))
        self.assertEqual(self.check(2, CROSSED, 2, ("net", (good[0], broken, broken))), ("inverse", 1))
        self.assertIsNone(self.check(2, CROSSED, 2, ("net", good)))
        for thing in (["net", good], ("net", good, ()), ("net",), ("Net", good), (good,), ("none", good), ("nets", good), good,
                      (True, good), (("net",), good), (["net"], good), ("net", good, good)):
            self.assertEqual(self.check(2, CROSSED, 2, thing), ("shape", 0))

    def test_shape_of_none(self):
        for shape in ((1, 1), (2, 0), (0, 2), (1, 0), (2, 1), (3, -1), (-1, 3), (1, 1, 0), (2,), (), [1, 1], (True, 1), (1, True),
                      (1, "1"), (1, None), None, 2, "11", ((1, 1),), (HUGE, 2 - HUGE), (False, 2), (1, (1,))):
            for figures in ((1, 1), (0, 0), (1, 0), (0, 1), [1, 1], (1,), (1, 1, 1), (), (True, True), (2, 1), (-1, 1), (1, "1"),
                            None, 3, "11", ((1, 1),), (1, (1,)), (HUGE, 1), (False, 1)):
                self.check(2, UNITS, 2, ("none", shape, figures))
        self.assertIsNone(self.check(2, UNITS, 2, ("none", (1, 1), (1, 1))))
        self.assertEqual(self.check(2, UNITS, 2, ("none", (1, 1), (1, 1), ())), ("shape", 0))
        self.assertEqual(self.check(2, UNITS, 2, ("none", (1, 1))), ("shape", 0))
        self.assertEqual(self.check(2, UNITS, 2, ["none", (1, 1), (1, 1)]), ("shape", 0))
        self.assertEqual(self.check(2, UNITS, 2, ("net", (1, 1), (1, 1))), ("shape", 0))
        self.assertEqual(self.check(2, UNITS, 2, ("None", (1, 1), (1, 1))), ("shape", 0))

    def test_nought_and_sum(self):
        self.assertEqual(self.check(2, UNITS, 2, ("none", (1, 1), (0, 0))), ("nought", 0))
        self.assertEqual(self.check(2, UNITS, 2, ("none", (2, 0), (0, 0))), ("nought", 0))
        self.assertEqual(self.check(2, UNITS, 2, ("none", (2, 0), (1, 0))), ("sum", 0))
        self.assertEqual(self.check(2, UNITS, 2, ("none", (2, 0), (0, 1))), ("sum", 1))
        self.assertEqual(self.check(2, UNITS, 2, ("none", (0, 2), (1, 1))), ("sum", 0))
        self.assertEqual(self.check(3, (unit(3), unit(3)), 2, ("none", (1, 1), (1, 2))), None)
        self.assertEqual(self.check(3, (unit(3), unit(3)), 2, ("none", (1, 1), (2, 1))), None)
        self.assertEqual(self.check(3, (unit(3), unit(3)), 2, ("none", (1, 1), (1, 1))), ("sum", 0))
        self.assertEqual(self.check(3, (unit(3)[::-1],), 1, ("none", (1,), (2,))), ("sum", 2))
        for p in PRIMES:
            self.assertIsNone(self.check(p, (((0,),),), 1, ("none", (1,), (1,))))
            self.assertEqual(self.check(p, (((0,),),), 1, ("none", (1,), (0,))), ("nought", 0))
            self.assertEqual(self.check(p, (((0,),),), 1, ("none", (1,), (p,))), ("shape", 0))

    def test_papers_of_other_strengths_and_tables(self):
        papers = [(p, tables, w, net_paper(p, tables, w)) for p, tables in MANY[::3] for w in range(1, len(tables[0]) + 1)]
        for p, tables in MANY[1::9]:
            for w in range(1, len(tables[0]) + 1):
                for other in papers[::2]:
                    self.check(p, tables, w, other[3])
        one = net_paper(2, CROSSED, 2)
        self.assertEqual(self.check(2, CROSSED, 1, one), ("shape", 0))
        self.assertEqual(self.check(2, UNITS, 2, one), ("inverse", 0))
        self.assertEqual(self.check(2, (CROSSED[1], CROSSED[1]), 2, one), ("inverse", 1))
        self.assertEqual(self.check(2, CROSSED, 2, net_paper(2, UNITS, 2)), ("sum", 0))

    def test_any_plain_thing(self):
        for thing in OTHER_THINGS + (
            deep(39), deep(40), ("net", deep(38)), ("none", deep(38), (1,)), ("none", (1, 0), deep(38)), ("net", HUGE), ("none", HUGE, HUGE),
            ("net", (True,)), ("net", ((),) * 2), ("net", (((),),) * 2), ("none", (), ()), ("net", ((1, 1), (1, 1))), ("net", ()),
        ):
            for p, tables, w in ((2, UNITS, 1), (2, UNITS, 2), (3, (unit(3),), 2), (7, (((1,),),) * 4, 1)):
                self.assertEqual(self.check(p, tables, w, thing), ("shape", 0), thing)

    def test_told_papers_with_lists_within(self):
        for p, tables in MANY[::5]:
            for w in range(1, len(tables[0]) + 1):
                paper = net_paper(p, tables, w)
                self.assertEqual(self.check(p, tables, w, list(paper)), ("shape", 0))
                for place in range(1, len(paper)):
                    thing = paper[:place] + (list(paper[place]),) + paper[place + 1:]
                    self.assertEqual(self.check(p, tables, w, thing), ("shape", 0))

    def test_the_refusal(self):
        with self.assertRaises(NoNet) as caught:
            lets_net(2, UNITS, 2, ("none", (2, 0), (0, 1)))
        self.assertIsInstance(caught.exception, EvenError)
        self.assertEqual((caught.exception.word, caught.exception.number), ("sum", 1))


if __name__ == "__main__":
    unittest.main()
