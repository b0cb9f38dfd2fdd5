"""Least uneven sets and their papers: points 78 to 81, and point 5 of them."""

import unittest
from fractions import Fraction
from itertools import combinations
from math import comb
from random import Random

from evenpoints.errors import EvenError, NoPaper, TooMany
from evenpoints.least import least_set, places_of
from evenpoints.leastchecker import lets_least
from evenpoints.points import is_points
from things import (
    HUGE, OTHER_THINGS, altered, big, box_size_plainly, deep, inside_plainly, is_corner_plainly, small, uneven_plainly,
)

HALVES = ((0, 1), (1, 2))
THIRDS = ((0, 1), (1, 3), (2, 3))
ODD = ((1, 7), (2, 5), (1, 2), (999999999998, 999999999999))


def even_side(many):
    """Make the numbers k / many."""
    return tuple(small(Fraction(k, many)) for k in range(many))


GRIDS = (
    (((0, 1),),), (((2, 3),),), (HALVES,), (THIRDS,), (ODD,), (even_side(5),), (even_side(8),), (((0, 1),), ((0, 1),)),
    (HALVES, HALVES), (HALVES, ODD), (ODD, ((1, 3),)), (THIRDS, THIRDS), (((3, 4),), THIRDS), (HALVES, even_side(4)),
)


def places_plainly(grid):
    """Make the places of a grid one by one."""
    if len(grid) == 1:
        return tuple((x,) for x in grid[0])
    return tuple((x, y) for x in grid[0] for y in grid[1])


def told_of(grid, many, number, thing):
    """Tell None where a thing is let by, else (path, word)."""
    try:
        told = lets_least(grid, many, number, thing)
    except NoPaper as refusal:
        return (refusal.path, refusal.word)
    assert told is True, told
    return None


def leaf_plainly(places, many, number, taken, free, leaf):
    """Tell by the document's words whether what a leaf with a box says is so."""
    word, box = leaf
    size = box_size_plainly(box)
    way = "shut" if word == "over" else "open"
    taken_in = sum(inside_plainly([places[g]], box, way) for g in taken)
    both_in = sum(inside_plainly([places[g]], box, way) for g in taken | free)
    if word == "over":
        most = max(taken_in, many - (len(taken | free) - both_in))
        return Fraction(most, many) - size >= big(number)
    least = min(both_in, many - (len(taken) - taken_in))
    return size - Fraction(least, many) >= big(number)


def fault_plainly(grid, many, number, thing, taken=frozenset(), let_go=frozenset(), path=()):
    """Tell (path, word) by the document's words, or None."""
    places = places_plainly(grid)
    free = frozenset(range(len(places))) - taken - let_go
    if type(thing) is not tuple or not thing or type(thing[0]) is not str:
        return (path, "shape")
    if (thing[0], len(thing)) not in (("take", 4), ("many", 1), ("few", 1), ("over", 2), ("lack", 2)):
        return (path, "shape")
    if thing[0] == "take":
        g = thing[1]
        if type(g) is not int or g not in free:
            return (path, "place")
        fault = fault_plainly(grid, many, number, thing[2], taken | {g}, let_go, path + (0,))
        return fault or fault_plainly(grid, many, number, thing[3], taken, let_go | {g}, path + (1,))
    if thing[0] == "many":
        return None if len(taken) > many else (path, "many")
    if thing[0] == "few":
        return None if len(taken) + len(free) < many else (path, "few")
    if not is_corner_plainly(len(grid), thing[1]):
        return (path, "box")
    return None if leaf_plainly(places, many, number, taken, free, thing) else (path, thing[0])


def worst_leaf(places, some):
    """Tell a leaf whose box misses as much as the unevenness of a set."""
    points = [places[g] for g in some]
    uneven = uneven_plainly(points)
    ends = [sorted({big(point[side]) for point in points} | {Fraction(1)}) for side in range(len(points[0]))]
    boxes = [()]
    for side in ends:
        boxes = [box + (("to", small(t)),) for box in boxes for t in side]
    for box in boxes:
        size = box_size_plainly(box)
        if Fraction(inside_plainly(points, box, "shut"), len(points)) - size == uneven:
            return ("over", box)
        if size - Fraction(inside_plainly(points, box, "open"), len(points)) == uneven:
            return ("lack", box)
    raise AssertionError(some)


def whole_tree(grid, many, order, taken=(), at=0):
    """Make a paper that asks of all places in an order, however much is known ahead."""
    if at == len(order):
        if len(taken) != many:
            return ("many",) if len(taken) > many else ("few",)
        return worst_leaf(places_plainly(grid), taken)
    return (
        "take", order[at], whole_tree(grid, many, order, taken + (order[at],), at + 1), whole_tree(grid, many, order, taken, at + 1))


def node_at(thing, path):
    """Tell the node to which a path leads."""
    for way in path:
        thing = thing[2 + way]
    return thing


def paths_of(thing, path=()):
    """Tell the paths of all nodes, a node ahead of what is within it, P ahead of Q."""
    paths = [path]
    if thing[0] == "take":
        paths += paths_of(thing[2], path + (0,)) + paths_of(thing[3], path + (1,))
    return paths


def with_node(thing, path, node):
    """Make a paper with another node at a path."""
    if path == ():
        return node
    place = 2 + path[0]
    return thing[:place] + (with_node(thing[place], path[1:], node),) + thing[place + 1:]


class PlacesTest(unittest.TestCase):
    def test_places(self):
        for grid in GRIDS + ((even_side(16),), (even_side(4), even_side(4)), (even_side(2), even_side(8)), (even_side(16), ((1, 2),))):
            told = places_of(grid)
            self.assertEqual(told, places_plainly(grid))
            self.assertTrue(is_points(len(grid), told))
        self.assertEqual(places_of((((1, 3),),)), (((1, 3),),))
        self.assertEqual(
            places_of((HALVES, ((1, 3), (2, 3)))),
            (((0, 1), (1, 3)), ((0, 1), (2, 3)), ((1, 2), (1, 3)), ((1, 2), (2, 3))))


class LeastSetTest(unittest.TestCase):
    def check(self, grid, many):
        """Go through all sets one by one."""
        places = places_plainly(grid)
        told = least_set(grid, many)
        self.assertEqual((type(told), len(told)), (tuple, 3))
        number, chosen, paper = told
        least = min(uneven_plainly([places[g] for g in some]) for some in combinations(range(len(places)), many))
        self.assertEqual(number, small(least), (grid, many))
        self.assertIs(type(chosen), tuple)
        self.assertEqual((len(chosen), chosen), (many, tuple(sorted(set(chosen)))))
        self.assertTrue(all(type(g) is int and 0 <= g < len(places) for g in chosen))
        self.assertEqual(uneven_plainly([places[g] for g in chosen]), least)
        self.assertIs(lets_least(grid, many, number, paper), True)
        self.assertIsNone(fault_plainly(grid, many, number, paper))
        return told

    def test_all_counts_of_each_grid(self):
        for grid in GRIDS:
            for many in range(1, len(places_plainly(grid)) + 1):
                self.check(grid, many)

    def test_sixteen_places(self):
        for grid in ((even_side(16),), (even_side(4), even_side(4))):
            for many in (1, 2, 14, 15, 16):
                self.check(grid, many)

    def test_few_of_many(self):
        self.check((ODD[:3], even_side(4)), 4)
        self.check((even_side(11),), 4)

    def test_grids_by_a_fixed_rule(self):
        chance, longest = Random("grids"), 0
        numbers = [Fraction(k, 97) for k in range(97)]
        for sides, many in (((9,), 4), ((10,), 3), ((11,), 8), ((3, 3), 4), ((2, 5), 6), ((4, 3), 2), ((3, 4), 9), ((5, 2), 5)):
            grid = tuple(tuple(small(x) for x in sorted(chance.sample(numbers, length))) for length in sides)
            longest = max(longest, len(paths_of(self.check(grid, many)[2])))
        # Some of the papers are trees of many nodes.
        self.assertGreater(longest, 10)

    def test_examples(self):
        self.assertEqual(least_set((((0, 1),),), 1)[:2], ((1, 1), (0,)))
        self.assertEqual(least_set((THIRDS,), 3)[:2], ((1, 3), (0, 1, 2)))
        self.assertEqual(least_set((((1, 4), (1, 2), (3, 4)),), 2)[:2], ((1, 4), (0, 2)))
        self.assertEqual(least_set((((0, 1), (1, 2)),), 1)[:2], ((1, 2), (1,)))

    def test_a_thousand_sets(self):
        # No count of sets of at most sixteen places is 1,000 itself: 924 and 1,001 are the nearest.
        counts = [comb(n, many) for n in range(1, 17) for many in range(n + 1)]
        self.assertEqual((max(c for c in counts if c <= 1000), min(c for c in counts if c > 1000)), (924, 1001))
        number, chosen, paper = self.check((even_side(12),), 6)
        self.assertEqual(number, (1, 12))
        for sides, many in (((14,), 4), ((14,), 10), ((13,), 5), ((16,), 4), ((4, 4), 8), ((2, 7), 4), ((16,), 12)):
            with self.assertRaises(TooMany) as caught:
                least_set(tuple(even_side(n) for n in sides), many)
            self.assertEqual(caught.exception.word, "sets")
            self.assertIsInstance(caught.exception, EvenError)
        for sides, many in (((13,), 4), ((16,), 13), ((4, 4), 3), ((2, 7), 3), ((14,), 11)):
            grid = tuple(even_side(n) for n in sides)
            number, chosen, paper = least_set(grid, many)
            self.assertIsNone(told_of(grid, many, number, paper))
            self.assertEqual(small(uneven_plainly([places_of(grid)[g] for g in chosen])), number)

    def test_papers_for_less_not_for_more(self):
        for grid in GRIDS:
            for many in range(1, min(5, len(places_plainly(grid))) + 1):
                number, chosen, paper = least_set(grid, many)
                for less in (Fraction(0), Fraction(-1), Fraction(-HUGE), big(number) - Fraction(1, HUGE), big(number) / 2):
                    self.assertIsNone(told_of(grid, many, small(less), paper))
                for more in (big(number) + Fraction(1, HUGE), big(number) + 1, Fraction(HUGE)):
                    fault = told_of(grid, many, small(more), paper)
                    self.assertEqual(fault, fault_plainly(grid, many, small(more), paper))
                    self.assertIn(fault[1], ("over", "lack"))


class CheckerTest(unittest.TestCase):
    def check(self, grid, many, number, thing):
        fault = fault_plainly(grid, many, number, thing)
        self.assertEqual(told_of(grid, many, number, thing), fault, (grid, many, number, thing))
        return fault

    def test_trees_of_other_orders(self):
        for grid in ((THIRDS,), (HALVES, HALVES), (ODD,), (even_side(5),)):
            many_places = len(places_plainly(grid))
            forward = tuple(range(many_places))
            for many in range(1, many_places + 1):
                number = least_set(grid, many)[0]
                for order in (forward, forward[::-1], forward[1:] + forward[:1], forward[::2] + forward[1::2]):
                    tree = whole_tree(grid, many, order)
                    self.assertIsNone(self.check(grid, many, number, tree))
                    self.assertIsNotNone(self.check(grid, many, small(big(number) + Fraction(1, 10 ** 30)), tree))

    def test_no_paper_for_more_whoever_wrote_it(self):
        # Each node of a whole tree gets each leaf: what is let by is right.
        grid, many = (THIRDS,), 2
        tree = whole_tree(grid, many, (0, 1, 2))
        leaves = [("many",), ("few",)] + [
            (word, (("to", t),)) for word in ("over", "lack") for t in ((-1, 2), (0, 1), (1, 3), (1, 2), (2, 3), (1, 1))]
        least = big(least_set(grid, many)[0])
        for path in paths_of(tree):
            for leaf in leaves:
                thing = with_node(tree, path, leaf)
                for number in ((0, 1), small(least), small(least + Fraction(1, 100)), (-1, 3)):
                    fault = self.check(grid, many, number, thing)
                    self.assertFalse(fault is None and big(number) > least)

    def test_altered_papers(self):
        for grid, many in (((HALVES, HALVES), 2), ((THIRDS,), 2), ((even_side(4),), 3)):
            number, chosen, paper = least_set(grid, many)
            tree = whole_tree(grid, many, tuple(range(len(places_plainly(grid)))))
            for written in (paper, node_at(tree, (0, 0)), node_at(tree, (0, 1)), tree[:2] + (("few",), ("few",))):
                for thing in altered(written, (None, (), 0, 1, True, "few", ("few",), ("over", ()), HUGE)):
                    self.check(grid, many, number, thing)
                    self.check(grid, many, number, ("take", 0, ("many",), thing))

    def test_faults_deep_within(self):
        for grid, many in (((HALVES, HALVES), 2), ((even_side(5),), 3)):
            number = least_set(grid, many)[0]
            tree = whole_tree(grid, many, tuple(range(len(places_plainly(grid)))))
            for path in paths_of(tree):
                for node in (
                    None, [], (), ("take",), ("take", 0, ("few",)), ("take", HUGE, ("few",), ("few",)), ("over", None), ("lack", ()),
                    ("many",), ("few",), ["few"], ("few", 0), ("more",), ("take", True, ("few",), ("few",)), ("over",), deep(20),
                    ("over", (("to", (1, 1)),) * len(grid)), ("lack", (("to", (-1, 1)),) * len(grid)),
                ):
                    self.check(grid, many, number, with_node(tree, path, node))

    def test_a_node_ahead_of_what_is_within_and_p_ahead_of_q(self):
        grid = (THIRDS,)
        bad, leaf = None, ("over", (("to", (0, 1)),))
        self.assertEqual(self.check(grid, 1, (0, 1), ("take", 3, bad, bad)), ((), "place"))
        self.assertEqual(self.check(grid, 1, (0, 1), ("take", 0, bad, bad)), ((0,), "shape"))
        self.assertEqual(self.check(grid, 1, (0, 1), ("take", 0, leaf, bad)), ((1,), "shape"))
        self.assertEqual(self.check(grid, 1, (0, 1), ("take", 0, leaf, ("take", 0, bad, bad))), ((1,), "place"))
        self.assertEqual(self.check(grid, 1, (0, 1), ("take", 0, ("take", 1, ("many",), bad), bad)), ((0, 1), "shape"))
        self.assertEqual(self.check(grid, 1, (0, 1), ("take", 0, ("take", 1, ("few",), bad), bad)), ((0, 0), "few"))

    def test_free_places(self):
        grid = (THIRDS,)
        for g in (-1, 3, True, False, None, "0", (0,), [0], (), HUGE):
            self.assertEqual(told_of(grid, 1, (0, 1), ("take", g, ("few",), ("few",))), ((), "place"), g)
        nested = ("take", 2, ("take", 2, ("few",), ("few",)), ("few",))
        self.assertEqual(self.check(grid, 1, (0, 1), nested), ((0,), "place"))
        nested = ("take", 2, ("over", (("to", (0, 1)),)), ("take", 2, ("few",), ("few",)))
        self.assertEqual(self.check(grid, 1, (-1, 1), nested), ((1,), "place"))

    def test_few_and_many_at_their_edges(self):
        grid = (even_side(4),)
        for many in range(1, 5):
            for taken in range(5):
                for let_go in range(5 - taken):
                    for leaf in (("many",), ("few",)):
                        thing, place = leaf, taken + let_go
                        path = (0,) * taken + (1,) * let_go
                        for way in reversed(path):
                            place -= 1
                            other = ("over", (("to", (-1, 1)),))
                            thing = ("take", place) + ((thing, other) if way == 0 else (other, thing))
                        fault = self.check(grid, many, (-HUGE, 1), thing)
                        right = taken > many if leaf[0] == "many" else 4 - let_go < many
                        self.assertEqual(fault, None if right else (path, leaf[0]))

    def test_boxes(self):
        grid = (HALVES, THIRDS)
        good = (("to", (1, 2)), ("to", (1, 3)))
        for word in ("over", "lack"):
            for box in (
                good[:1], good + good[:1], list(good), (good[0], ["to", (1, 3)]), (good[0], ("to", [1, 3])), (good[0], ("to", (1, 3), (1, 3))),
                (good[0], ("from", (0, 1), (1, 3))), (good[0], ("round", (1, 2), (1, 3))), (("from", (0, 1), (1, 2)), good[1]),
                (good[0], ("to", (4, 3))), (good[0], ("to", (-4, 3))), (good[0], ("to", (2, 6))), (good[0], ("to", 1)), (good[0], ("to",)),
                (good[0], None), (good[0], ()), (), None, "to", ("to", (1, 2)), (good[0], ("to", (True, 1))), (good,), (good[0], ("To", (1, 3))),
                (good[0], ("to", (3, 2))), (good[0], ("to", (0, 0))),
            ):
                self.assertEqual(self.check(grid, 2, (-5, 1), (word, box)), ((), "box"), box)
            for t in ((-1, 1), (-1, 2), (0, 1), (1, 3), (1, 2), (1, 1)):
                for u in ((-1, 1), (-2, 3), (0, 1), (1, 3), (1, 1)):
                    for many in range(1, 7):
                        for number in ((-1, 1), (-1, 2), (-1, 6), (0, 1), (1, 6), (1, 3), (5, 6), (1, 1)):
                            self.check(grid, many, number, (word, (("to", t), ("to", u))))

    def test_numbers_just_at_the_edge(self):
        grid = (HALVES,)
        for word, t, edge in (("over", (0, 1), Fraction(1, 2)), ("over", (1, 2), Fraction(1, 2)), ("lack", (1, 2), Fraction(0)),
                              ("lack", (1, 1), Fraction(0)), ("over", (-1, 2), Fraction(0)), ("lack", (-1, 2), Fraction(0))):
            for number in (edge, edge - Fraction(1, HUGE), edge + Fraction(1, HUGE)):
                fault = self.check(grid, 2, small(number), (word, (("to", t),)))
                self.assertIs(fault is None, number <= edge, (word, t, number))

    def test_any_plain_thing(self):
        for thing in OTHER_THINGS + (
            deep(39), deep(40), ["few"], ("few", None), ("many", ()), ("take", 0, ("few",)), ("take", 0, ("few",), ("few",), ("few",)),
            ("over",), ("over", (), ()), ("lack",), ("Few",), ("fews",), (("few",),), (["few"],), (None, ()), (0, 0, 0, 0), ("take",) * 3,
        ):
            for grid, many in (((THIRDS,), 2), ((HALVES, HALVES), 3)):
                self.assertEqual(self.check(grid, many, (0, 1), thing), ((), "shape"), thing)
                self.assertEqual(self.check(grid, many, (0, 1), ("take", 0, thing, thing)), ((0,), "shape"), thing)
        for thing in (("take",) * 4, ("take", None, None, None), ("over", "over"), ("lack", 0)):
            self.assertIn(self.check((THIRDS,), 2, (0, 1), thing)[1], ("place", "box"))

    def test_told_papers_as_lists(self):
        grid = (even_side(13),)
        number, chosen, paper = least_set(grid, 9)
        self.assertEqual(self.check(grid, 9, number, list(paper)), ((), "shape"))
        self.assertEqual(paper[0], "take")
        self.assertEqual(self.check(grid, 9, number, paper[:2] + (list(paper[2]), paper[3])), ((0,), "shape"))
        self.assertEqual(self.check(grid, 9, number, paper[:3] + (list(paper[3]),)), ((1,), "shape"))

    def test_the_refusal(self):
        with self.assertRaises(NoPaper) as caught:
            lets_least((THIRDS,), 1, (0, 1), ("few",))
        self.assertIsInstance(caught.exception, EvenError)
        self.assertEqual((caught.exception.path, caught.exception.word), ((), "few"))


if __name__ == "__main__":
    unittest.main()
