"""What is handed in stays as it was, and what is told is the asker's own: point 2."""

import unittest
from copy import deepcopy

from evenpoints.boxes import is_box, is_side
from evenpoints.cells import cell_told
from evenpoints.corners import corners_of, rest_of
from evenpoints.errors import NoNet, NoPaper
from evenpoints.evenchecker import lets_even
from evenpoints.evenpapers import even_corner, even_exchanged, even_inner, even_joined, even_paper, even_shadow
from evenpoints.fractions import in_size, is_fraction
from evenpoints.gapchecker import lets_neighbours
from evenpoints.gaps import gaps, neighbours, next_of
from evenpoints.least import least_set, places_of
from evenpoints.leastchecker import lets_least
from evenpoints.looks import all_worst, looks, many_looks, unevenness, worst
from evenpoints.moves import beside, exchanged, mirrored, shadow, shifted
from evenpoints.netchecker import lets_net, void_box
from evenpoints.netpapers import net_paper
from evenpoints.nets import is_tables, points_of_tables, rows_of, shape_box, shapes_of
from evenpoints.orderchecker import lets_order
from evenpoints.orders import best_order, heave
from evenpoints.patches import counted
from evenpoints.piecechecker import bounds_by, lets_pieces
from evenpoints.pieces import piece_paper
from evenpoints.points import is_point, is_points
from evenpoints.rows import box_of, indexes, is_row, is_small, many_in, points_of, row_bound
from evenpoints.squares import square_miss, square_without
from evenpoints.steps import blocks, denominators, step_bound, stepped
from evenpoints.strength import beginning, net_bound, strength, sum_tables
from evenpoints.sums import mean_of, sheet_of, swing_of, value_at, weights_of, whole_of
from evenpoints.tables import applied, combination, is_table, right_inverse, table_times
from evenpoints.texts import box_text, points_text
from things import scattered

LISTS = (
    [0, 1], ([0, 1],), [[0, 1], [1, 2]], ([[0, 1]],), (([0, 1],),), ["to", (1, 2)], ("to", [1, 2]),
    (["to", [1, 2]],), [["from", [0, 1], [1, 2]]], ("round", [0, 1], (1, 1)), [[[[]]]], ([], []),
    ["cut", 0, 0, (1, 2), (), ()], ("cut", 0, 0, [1, 2], (), ()), ("cut", 0, 0, (1, 2), (), [[]]), ["ways", 0, [], []],
    [[2, [0, 1]]], ((2, [0, 1]),), ([2, (0, 1)],), [(1, 0)], ([1, 0],),
    [[[[0, 0]]], []], (([[0, 0]],), ()), ([((0, 0),)], ()), ((([0, 0],),), []), [5, 8], ([5], 8),
    [[[1, 0], [0, 1]]], ([(1, 0), (0, 1)],), (((1, 0), [0, 1]),), ["net", [[[1]]]], ("net", [((1,),)]), ("none", [1], [1]),
    ["none", (1,), (1,)], ("none", (1,), [1]), ["take", 0, ["few"], ["few"]], ("take", 0, ("few",), ["few"]), ["over", [["to", [1, 2]]]],
    ("over", [("to", (1, 2))]), ("lack", (["to", (1, 2)],)), [[(), [[]]]], (((), [()]),), (([], ((),)),), (((), ([],)),),
)


class HandedTest(unittest.TestCase):
    def test_lists_that_are_asked_stay(self):
        for thing in LISTS:
            kept = deepcopy(thing)
            self.assertIs(is_fraction(thing), False)
            self.assertIs(is_side(thing), False)
            for s in range(1, 5):
                self.assertIs(is_point(s, thing), False)
                self.assertIs(is_points(s, thing), False)
                self.assertIs(is_box(s, thing), False)
            self.assertIs(is_row(thing), False)
            self.assertIs(is_small(((2, (0, 1)),), thing), False)
            for family in ("corner", "inner", "round"):
                with self.assertRaises(NoPaper):
                    lets_even(scattered(3, 1), family, (1, 1), thing)
            with self.assertRaises(NoPaper):
                lets_pieces(((2, (0, 1)),), (("to", (1, 1)),), thing)
            with self.assertRaises(NoPaper):
                lets_neighbours((8, 13), 9, thing)
            self.assertIs(is_table(2, 2, 2, thing), False)
            self.assertIs(is_tables(2, thing), False)
            with self.assertRaises(NoNet):
                lets_net(2, (((1,),),), 1, thing)
            with self.assertRaises(NoPaper):
                lets_least((((0, 1), (1, 2)),), 1, (-1, 1), thing)
            with self.assertRaises(NoPaper):
                lets_order((((1, 2),),), (-1, 1), thing)
            self.assertEqual(thing, kept)

    def test_a_list_changed_behind_the_call_changes_nothing(self):
        some = [(1, 2), (0, 1)]
        told = in_size(some)
        some.append((1, 3))
        some[0] = (5, 1)
        self.assertEqual(told, ((0, 1), (1, 2)))
        self.assertEqual(in_size(some), ((0, 1), (1, 3), (5, 1)))

    def test_points_and_boxes_stay(self):
        points, box, cuts = scattered(3, 2), (("from", (1, 4), (1, 2)), ("round", (1, 2), (-1, 3))), (((1, 2),), ())
        kept = deepcopy((points, box, cuts))
        shifted(points, ((1, 2), (-1, 3))), mirrored(points, (0, 1)), exchanged(points, (1, 0))
        shadow(points, (1,)), beside(points, points), corners_of(box), rest_of(box[0]), counted(points, cuts)
        points_text(points), box_text(box)
        for family in ("corner", "inner", "round"):
            looks(points, family), many_looks(points, family), unevenness(points, family)
            worst(points, family), all_worst(points, family)
        self.assertEqual((points, box, cuts), kept)

    def test_papers_stay(self):
        points = scattered(3, 2)
        for family in ("corner", "inner", "round"):
            paper = even_paper(points, family, unevenness(points, family))
            kept = deepcopy((points, paper))
            square_miss(points), square_without(points), lets_even(points, family, (1, 1), paper)
            even_exchanged(paper, (1, 0)), even_shadow(family, paper, 0), even_joined(family, 2, paper, paper)
            if family != "corner":
                turned = even_inner(paper) if family == "round" else even_corner(paper)
                self.assertIs(lets_even(points, {"round": "inner", "inner": "corner"}[family], (1, 1), turned), True)
            self.assertEqual((points, paper), kept)
            self.assertEqual(even_paper(points, family, unevenness(points, family)), kept[1])

    def test_cells_and_rows_stay(self):
        cell = (("to", (((-1, 1), (1, 2)),)), ("round", (((0, 1), (1, 2)), ((-1, 1), (1, 3)))))
        row, small_box = ((2, (0, 1)), (3, (0, 2, 1))), ((1, 1), (2, 5))
        kept = deepcopy((cell, row, small_box))
        first = (cell_told(scattered(3, 2), cell), points_of(row, 4, 5), indexes(row, small_box), box_of(row, small_box))
        many_in(row, small_box, 3, 100), row_bound(row, 40), is_row(row), is_small(row, small_box)
        self.assertEqual((cell, row, small_box), kept)
        again = (cell_told(scattered(3, 2), cell), points_of(row, 4, 5), indexes(row, small_box), box_of(row, small_box))
        self.assertEqual(first, again)

    def test_piece_papers_and_steps_stay(self):
        row, box, step = ((2, (0, 1)), (3, (0, 2, 1))), (("from", (1, 4), (2, 3)), ("from", (-1, 2), (1, 2))), (8, 13)
        paper = piece_paper(row, box, 2)
        kept = deepcopy((row, box, step, paper))
        lets_pieces(row, box, paper), bounds_by(row, paper, 100), stepped((1, 2), step, 5), denominators(step)
        blocks(step, 40), step_bound(step, 40), neighbours(step, 9), next_of(step, 9, 4), gaps(step, 9)
        lets_neighbours(step, 9, neighbours(step, 9))
        self.assertEqual((row, box, step, paper), kept)
        self.assertEqual(piece_paper(row, box, 2), kept[3])

    def test_tables_and_net_papers_stay(self):
        for p, tables in ((2, sum_tables(2, 3, 2)), (3, (((1, 2), (0, 1)), ((1, 2), (2, 2))))):
            kept = deepcopy(tables)
            applied(p, tables[0], tables[1][0]), table_times(p, tables[0], tables[1]), right_inverse(p, tables[0])
            combination(p, tables[1]), points_of_tables(p, tables), rows_of(tables, (1, 1)), shape_box(p, (1, 1), (0, 1))
            strength(p, tables), net_bound(p, 2, 2)
            for w in (1, 2):
                paper = net_paper(p, tables, w)
                kept_paper = deepcopy(paper)
                lets_net(p, tables, w, paper)
                if paper[0] == "none":
                    void_box(p, tables, paper)
                self.assertEqual((tables, paper), (kept, kept_paper))
                self.assertEqual(net_paper(p, tables, w), kept_paper)
        self.assertEqual(beginning(sum_tables(2, 3, 2), 2), sum_tables(2, 2, 2))

    def test_least_and_order_papers_stay(self):
        grid, points = (((0, 1), (1, 3), (1, 2)), ((1, 4), (1, 2))), scattered(4, 2)
        least, best = least_set(grid, 3), best_order(points)
        kept = deepcopy((grid, points, least, best))
        places_of(grid), lets_least(grid, 3, least[0], least[2]), heave(points, best[1]), lets_order(points, best[0], best[2])
        self.assertEqual((grid, points, least, best), kept)
        self.assertEqual((least_set(grid, 3), best_order(points)), kept[2:])

    def test_sheets_stay(self):
        sheet, points = ((((1, 3), (1, 2)), ((1, 4),)), (((0, 1), (1, 2)), ((-1, 3), (2, 1)), ((5, 1), (5, 1)))), scattered(5, 2)
        weights = list(weights_of(sheet))
        kept = deepcopy((sheet, points, weights))
        value_at(sheet, points[0]), mean_of(sheet, points), whole_of(sheet), swing_of(sheet)
        told = sheet_of(sheet[0], weights)
        self.assertEqual((sheet, points, weights), kept)
        weights.clear()
        self.assertEqual(told, kept[0])

    def test_told_shapes_are_the_askers_own(self):
        told = shapes_of(3, 2)
        kept = list(told)
        told.clear()
        self.assertEqual(shapes_of(3, 2), kept)

    def test_told_lists_are_the_askers_own(self):
        points = scattered(3, 2)
        for family in ("corner", "inner", "round"):
            for asked in (looks, all_worst):
                told = asked(points, family)
                kept = deepcopy(told)
                told.clear()
                self.assertEqual(asked(points, family), kept)
                told.append("changed")
                told = asked(points, family)
                told[0] = None
                told.reverse()
                self.assertEqual(asked(points, family), kept)

    def test_nothing_hangs_on_what_was_asked_before(self):
        one, other = scattered(3, 2), scattered(4, 2, seed=6)
        first = [(unevenness(one, family), all_worst(one, family)) for family in ("corner", "inner", "round")]
        for family in ("round", "corner", "inner"):
            all_worst(other, family), looks(other, family)
        again = [(unevenness(one, family), all_worst(one, family)) for family in ("corner", "inner", "round")]
        self.assertEqual(first, again)


if __name__ == "__main__":
    unittest.main()
