"""Papers by small boxes: points 47, 48 and 49, and point 5 of piece papers."""

import unittest
from copy import deepcopy
from fractions import Fraction
from itertools import product
from random import Random

from evenpoints.boxes import inside
from evenpoints.errors import EvenError, NoPaper, TooMany
from evenpoints.piecechecker import bounds_by, lets_pieces
from evenpoints.pieces import piece_paper
from evenpoints.rows import is_small, points_of
from things import HUGE, OTHER_THINGS, big, box_size_plainly, deep, small, turned_plainly

TWO, THREE, FIVE = (2, (0, 1)), (3, (0, 2, 1)), (5, (0, 3, 1, 4, 2))
SEVEN, TEN, ELEVEN, SIXTEEN = [(b, tuple(range(b))) for b in (7, 10, 11, 16)]
ZERO, HALF, ONE = (0, 1), (1, 2), (1, 1)
WHOLE = ("to", ONE)
SIDES = (
    WHOLE, ("to", HALF), ("to", (3, 8)), ("to", (1, 3)), ("to", (5, 9)), ("to", ZERO), ("to", (-1, 2)), ("to", (999, 1000)),
    ("from", ZERO, ONE), ("from", (-1, 2), ONE), ("from", (-1, 1), (1, 4)), ("from", (1, 4), (3, 4)), ("from", (1, 3), (2, 3)),
    ("from", (1, 5), (4, 5)), ("from", (1, 10), (1, 9)), ("from", HALF, HALF), ("from", (3, 4), (1, 4)), ("from", HALF, (-1, 3)),
    ("from", (2, 9), (7, 8)), ("from", (7, 16), (9, 16)), ("from", ONE, ONE), ("from", (-1, 2), (-1, 3)),
)
BOXES = tuple((row, (side,)) for row in ((TWO,), (THREE,), (FIVE,)) for side in SIDES) + (
    ((TWO, THREE), (("to", (3, 4)), ("to", (2, 3)))), ((TWO, THREE), (("to", (3, 5)), ("to", (4, 5)))),
    ((TWO, THREE), (("from", (1, 3), (2, 3)), ("from", (1, 4), (3, 4)))), ((THREE, TWO), (WHOLE, WHOLE)),
    ((THREE, TWO), (("to", ZERO), WHOLE)), ((TWO, THREE, FIVE), (("to", HALF), ("to", (1, 3)), ("to", (2, 5)))),
    ((TWO, THREE, FIVE), (("from", (1, 4), ONE), ("from", (1, 3), ONE), ("from", (-1, 2), (4, 5)))),
    ((TWO, THREE, FIVE, SEVEN), (WHOLE, ("from", (1, 3), ONE), WHOLE, WHOLE)),
)


def ends_of(side):
    return (Fraction(0), big(side[1])) if side[0] == "to" else (big(side[1]), big(side[2]))


def piece_ends_plainly(base, piece):
    return Fraction(piece[1], base ** piece[0]), Fraction(piece[1] + 1, base ** piece[0])


def fault_plainly(row, box, thing):
    """Tell (path, word) of what is amiss with a thing, or None, by the document's words."""
    if not isinstance(thing, tuple) or len(thing) != 2 or not all(isinstance(part, tuple) for part in thing):
        return ((), "shape")
    smalls = thing[0] + thing[1]
    if len(smalls) > 1000 or not all(is_small(row, one) for one in smalls):
        return ((), "shape")
    limits = [ends_of(side) for side in box]
    rows = [[piece_ends_plainly(turn[0], piece) for turn, piece in zip(row, one)] for one in smalls]
    for k in range(len(thing[0])):
        if any(begin < low or end > high for (begin, end), (low, high) in zip(rows[k], limits)):
            return ((k,), "inside")
    for k, one in enumerate(rows):
        for other in rows[:k]:
            if all(max(a, c) < min(b, d) for (a, b), (c, d) in zip(one, other)):
                return ((k,), "twice")
    total = Fraction(0)
    for one in rows:
        common = Fraction(1)
        for (begin, end), (low, high) in zip(one, limits):
            common *= max(min(end, high) - max(begin, low), Fraction(0))
        total += common
    return None if total == box_size_plainly(box) else ((), "cover")


def told_of(row, box, thing):
    """Tell None where a thing is let by, else (path, word)."""
    try:
        told = lets_pieces(row, box, thing)
    except NoPaper as refusal:
        return (refusal.path, refusal.word)
    assert told is True, told
    return None


def side_pieces_plainly(base, side, depth):
    """Tell the pieces within a side, and those across, by a walk over all of them."""
    low, high = ends_of(side)

    def within(k, c):
        begin, end = piece_ends_plainly(base, (k, c))
        return low <= begin and end <= high

    def meets(k, c):
        begin, end = piece_ends_plainly(base, (k, c))
        return max(low, begin) < min(high, end)

    whole = [
        (k, c) for k in range(depth + 1) for c in range(base ** k)
        if within(k, c) and (k == 0 or not within(k - 1, c // base))
    ]
    return whole, [(depth, c) for c in range(base ** depth) if not within(depth, c) and meets(depth, c)]


def paper_plainly(row, box, depth):
    """Tell the piece paper by the document's words."""
    sides = [side_pieces_plainly(turn[0], side, depth) for turn, side in zip(row, box)]
    whole = set(product(*[within for within, across in sides]))
    every = set(product(*[within + across for within, across in sides]))
    return (tuple(sorted(whole)), tuple(sorted(every - whole)))


def parted(row, paper, seed):
    """Part some small boxes of a paper further, and put all in another order."""
    chance = Random(seed)
    told = []
    for smalls in paper:
        rows = []
        for one in smalls:
            side = chance.randrange(len(row))
            k, c = one[side]
            base = row[side][0]
            if k < 8 and chance.random() < 0.5:
                rows += [one[:side] + ((k + 1, c * base + figure),) + one[side + 1:] for figure in range(base)]
            else:
                rows.append(one)
        chance.shuffle(rows)
        told.append(tuple(rows))
    return tuple(told)


class LetByTest(unittest.TestCase):
    def test_made_papers_and_others(self):
        for row, box in BOXES:
            for depth in (0, 1, 2):
                paper = piece_paper(row, box, depth)
                self.assertIs(lets_pieces(row, box, paper), True)
                for seed in range(3):
                    other = parted(row, paper, seed)
                    if len(other[0]) + len(other[1]) <= 1000:
                        self.assertIs(lets_pieces(row, box, other), True)
                        self.assertIsNone(fault_plainly(row, box, other))
                # What lies inside may stand across, too.
                self.assertIs(lets_pieces(row, box, ((), paper[1] + paper[0])), True)

    def test_void_boxes(self):
        for side in (("to", ZERO), ("to", (-1, 2)), ("from", HALF, HALF), ("from", (3, 4), (1, 4)), ("from", (-1, 2), (-1, 3))):
            self.assertIs(lets_pieces((TWO,), (side,), ((), ())), True)
            self.assertIs(lets_pieces((TWO,), (side,), ((), (((0, 0),),))), True)
            self.assertEqual(told_of((TWO,), (side,), ((((8, 255),),), ())), ((0,), "inside"))
            self.assertIs(lets_pieces((TWO, THREE), (side, side), ((), ())), True)

    def test_a_thousand_and_one_more(self):
        row, box = (TEN,), (WHOLE,)
        thousand = tuple(((3, c),) for c in range(1000))
        self.assertIs(lets_pieces(row, box, (thousand, ())), True)
        self.assertIs(lets_pieces(row, box, ((), thousand)), True)
        self.assertIs(lets_pieces(row, box, (thousand[:400], thousand[400:])), True)
        self.assertEqual(told_of(row, box, (thousand, (((8, 0),),))), ((), "shape"))
        self.assertEqual(told_of(row, box, (thousand + (((8, 0),),), ())), ((), "shape"))
        more = tuple(((2, c),) for c in range(21)) + tuple(((3, c),) for c in range(231, 1211))
        self.assertEqual(len(more), 1001)
        self.assertEqual(told_of((ELEVEN,), (("to", (1211, 1331)),), (more, ())), ((), "shape"))
        fewer = tuple(((2, c),) for c in range(22)) + tuple(((3, c),) for c in range(242, 1211))
        self.assertIs(lets_pieces((ELEVEN,), (("to", (1211, 1331)),), (fewer, ())), True)


class FaultTest(unittest.TestCase):
    def test_any_plain_thing(self):
        for row, box in (BOXES[1], BOXES[-1], BOXES[-4]):
            paper = piece_paper(row, box, 1)
            pair = (paper[0], paper[1])
            one = ((0, 0),) * len(row)
            things = OTHER_THINGS + (
                deep(39), list(pair), (list(pair[0]), pair[1]), (pair[0], list(pair[1])), pair + ((),), pair[:1], (pair[0], None),
                (None, pair[1]), ("", ""), ((), ""), ((None,), ()), ((), (None,)), ((True,), ()), (((),), ()), ((list(one),), ()),
                ((one[:-1] + ([0, 0],),), ()), ((one + ((0, 0),),), ()), ((one[:-1],), ()), ((one[:-1] + ((9, 0),),), ()),
                ((one[:-1] + ((0, 1),),), ()), ((one[:-1] + ((False, 0),),), ()), ((one[:-1] + ((0, False),),), ()),
                ((one[:-1] + ((1, HUGE),),), ()), ((one[:-1] + ((0, -1),),), ()), ((), (one[:-1] + ((1, True),),)), one, (one, one),
                ((one,), (one,)), ((one, one), ()), ((), (one, one)), ((), (one,)), ((one,), ()),
            )
            for thing in things:
                kept = deepcopy(thing)
                self.assertEqual(told_of(row, box, thing), fault_plainly(row, box, thing), thing)
                self.assertEqual(thing, kept)

    def test_small_boxes_of_other_rows(self):
        paper = piece_paper((THREE,), (("to", (2, 3)),), 1)
        self.assertEqual(paper, ((((1, 0),), ((1, 1),)), ()))
        self.assertEqual(told_of((TWO,), (("to", (2, 3)),), paper), ((1,), "inside"))
        self.assertEqual(told_of((TWO,), (("to", (2, 3)),), ((((1, 2),),), ())), ((), "shape"))
        self.assertEqual(told_of((TWO, THREE), (WHOLE, WHOLE), paper), ((), "shape"))

    def test_inside(self):
        row = (TWO,)
        self.assertEqual(told_of(row, (("to", (3, 8)),), ((((2, 0),), ((2, 1),)), ())), ((1,), "inside"))
        self.assertEqual(told_of(row, (("from", (1, 4), HALF),), ((((2, 1),), ((2, 0),)), ())), ((1,), "inside"))
        self.assertEqual(told_of(row, (("from", (1, 8), HALF),), ((((2, 0),),), ())), ((0,), "inside"))
        self.assertIs(lets_pieces(row, (("from", (-1, 2), HALF),), ((((1, 0),),), ())), True)
        self.assertIs(lets_pieces(row, (("from", (-1, 1), ONE),), ((((0, 0),),), ())), True)
        self.assertEqual(told_of(row, (("from", (-1, 1), (-1, 2)),), ((((8, 0),),), ())), ((0,), "inside"))
        self.assertEqual(told_of(row, (("from", (3, 4), (1, 4)),), ((((2, 1),),), ())), ((0,), "inside"))
        # At any side.
        self.assertEqual(told_of((TWO, THREE), (WHOLE, ("to", HALF)), ((((0, 0), (0, 0)),), ())), ((0,), "inside"))
        self.assertEqual(told_of((THREE, TWO), (("to", HALF), WHOLE), ((((0, 0), (0, 0)),), ())), ((0,), "inside"))

    def test_twice(self):
        row, box = (TWO,), (WHOLE,)
        half, other, quarter = ((1, 0),), ((1, 1),), ((2, 1),)
        self.assertEqual(told_of(row, box, ((half, half, other), ())), ((1,), "twice"))
        self.assertEqual(told_of(row, box, ((half, other, quarter), ())), ((2,), "twice"))
        self.assertEqual(told_of(row, box, ((quarter, other, half), ())), ((2,), "twice"))
        self.assertEqual(told_of(row, box, ((half, other), (quarter,))), ((2,), "twice"))
        self.assertEqual(told_of(row, box, ((half,), (other, half, quarter))), ((2,), "twice"))
        self.assertEqual(told_of(row, box, ((), (half, other, other))), ((2,), "twice"))
        # At one side alone they may have numbers in common.
        two = (((1, 0), (0, 0)), ((1, 1), (0, 0)))
        self.assertIs(lets_pieces((TWO, THREE), (WHOLE, WHOLE), (two, ())), True)
        crossed = (((1, 0), (0, 0)), ((0, 0), (1, 0)))
        self.assertEqual(told_of((TWO, THREE), (WHOLE, WHOLE), (crossed, ())), ((1,), "twice"))

    def test_cover(self):
        row = (TWO,)
        self.assertEqual(told_of(row, (WHOLE,), ((((1, 0),),), ())), ((), "cover"))
        self.assertEqual(told_of(row, (WHOLE,), ((), ())), ((), "cover"))
        box = (("to", (3, 8)),)
        self.assertIs(lets_pieces(row, box, ((((2, 0),),), (((2, 1),),))), True)
        self.assertEqual(told_of(row, box, ((), (((2, 1),),))), ((), "cover"))
        # One that lies wholly outside has nothing in common with the box.
        self.assertIs(lets_pieces(row, box, ((((2, 0),),), (((2, 1),), ((1, 1),)))), True)
        self.assertEqual(told_of(row, box, ((((2, 0),),), (((1, 1),),))), ((), "cover"))

    def test_one_left_out_or_set_in_twice(self):
        chance = Random(5)
        for row, box in BOXES:
            paper = parted(row, piece_paper(row, box, 2), 1)
            if len(paper[0]) + len(paper[1]) > 900:
                continue
            for trial in range(12):
                rows = [list(part) for part in paper]
                part = chance.choice(rows)
                if part:
                    one = part.pop(chance.randrange(len(part)))
                    if trial % 3:
                        other = chance.choice(rows)
                        other.insert(chance.randrange(len(other) + 1), one)
                    if trial % 3 == 2:
                        other = chance.choice(rows)
                        other.insert(chance.randrange(len(other) + 1), one)
                thing = tuple(tuple(smalls) for smalls in rows)
                self.assertEqual(told_of(row, box, thing), fault_plainly(row, box, thing))

    def test_the_order_of_the_words(self):
        row, box = (TWO,), (("to", HALF),)
        out, low, lower = ((1, 1),), ((1, 0),), ((2, 0),)
        self.assertEqual(told_of(row, box, ((low, low, out), (None,))), ((), "shape"))
        self.assertEqual(told_of(row, box, ((low, low, out), ())), ((2,), "inside"))
        self.assertEqual(told_of(row, box, ((lower, lower), ())), ((1,), "twice"))
        self.assertEqual(told_of(row, box, ((lower,), (out, out))), ((2,), "twice"))
        self.assertEqual(told_of(row, box, ((lower,), (out,))), ((), "cover"))

    def test_the_refusal(self):
        with self.assertRaises(NoPaper) as caught:
            lets_pieces((TWO,), (WHOLE,), ((((1, 0),),) * 2, ()))
        self.assertIsInstance(caught.exception, EvenError)
        self.assertEqual((caught.exception.path, caught.exception.word), ((1,), "twice"))


class BoundsTest(unittest.TestCase):
    def right(self, row, paper, many):
        moduli = []
        for smalls in paper:
            moduli.append([])
            for one in smalls:
                modulus = 1
                for (base, exchange), (k, c) in zip(row, one):
                    modulus *= base ** k
                moduli[-1].append(modulus)
        return (sum(many // m for m in moduli[0]), sum(-(-many // m) for m in moduli[0] + moduli[1]))

    def test_by_the_words(self):
        for row, box in BOXES:
            for depth in (0, 2):
                for paper in (piece_paper(row, box, depth), parted(row, piece_paper(row, box, depth), 2)):
                    for many in (0, 1, 2, 3, 8, 9, 36, 100, 900, 10 ** 9 - 1, 10 ** 9):
                        told = bounds_by(row, paper, many)
                        self.assertIs(type(told), tuple)
                        self.assertEqual(told, self.right(row, paper, many))

    def test_none_and_one(self):
        paper = ((((1, 0),),), (((1, 1),),))
        self.assertEqual(bounds_by((TWO,), paper, 0), (0, 0))
        self.assertEqual(bounds_by((TWO,), paper, 1), (0, 2))
        self.assertEqual(bounds_by((TWO,), paper, 2), (1, 2))
        self.assertEqual(bounds_by((TWO,), ((), ()), 10 ** 9), (0, 0))
        self.assertEqual(bounds_by((TWO,), ((((0, 0),),), ()), 10 ** 9), (10 ** 9, 10 ** 9))

    def test_the_count_is_within(self):
        for row, box in BOXES:
            paper = piece_paper(row, box, 2)
            for begin in (0, 1, 5, 77, 10 ** 9):
                for many in (1, 2, 7, 12, 40):
                    least, most = bounds_by(row, paper, many)
                    self.assertTrue(least <= inside(points_of(row, begin, many), box, "half") <= most)

    def test_the_count_of_many_is_within(self):
        for row, box in BOXES[-6:]:
            points = [tuple(small(turned_plainly(*turn, n)) for turn in row) for n in range(700)]
            paper = piece_paper(row, box, 2)
            for begin, many in ((0, 700), (13, 500), (99, 601)):
                least, most = bounds_by(row, paper, many)
                self.assertTrue(least <= inside(points[begin:begin + many], box, "half") <= most)


class MadeTest(unittest.TestCase):
    def test_by_the_words(self):
        for row, box in BOXES:
            for depth in (0, 1, 2, 3):
                right = paper_plainly(row, box, depth)
                if len(right[0]) + len(right[1]) <= 1000:
                    told = piece_paper(row, box, depth)
                    self.assertEqual(told, right)
                    self.assertIsNone(fault_plainly(row, box, told))
                    self.assertIs(type(told), tuple)
                    for smalls in told:
                        self.assertIs(type(smalls), tuple)
                        self.assertEqual(list(smalls), sorted(set(smalls)))

    def test_depth_eight(self):
        for turn in (TWO, THREE):
            for side in SIDES:
                told = piece_paper((turn,), (side,), 8)
                self.assertEqual(told, paper_plainly((turn,), (side,), 8))
                self.assertIs(lets_pieces((turn,), (side,), told), True)

    def test_depth_eight_of_great_bases(self):
        for base in (7, 10, 13, 16):
            row = ((base, tuple(range(base))),)
            for side in (("to", (1, 3)), ("from", (1, 10), (9, 11)), ("from", (-1, 3), (999999999988, 999999999989))):
                told = piece_paper(row, (side,), 8)
                self.assertIs(lets_pieces(row, (side,), told), True)
                self.assertTrue(all(one[0][0] == 8 for one in told[1]))
                for (k, c), in told[0]:
                    self.assertNotIn(((k - 1, c // base),), told[0])

    def test_examples(self):
        self.assertEqual(piece_paper((TWO,), (WHOLE,), 8), ((((0, 0),),), ()))
        self.assertEqual(piece_paper((TWO,), (("from", (-1, 2), ONE),), 0), ((((0, 0),),), ()))
        self.assertEqual(piece_paper((TWO,), (("to", (3, 8)),), 0), ((), (((0, 0),),)))
        self.assertEqual(piece_paper((TWO,), (("to", (3, 8)),), 2), ((((2, 0),),), (((2, 1),),)))
        self.assertEqual(piece_paper((TWO,), (("to", (3, 8)),), 3), ((((2, 0),), ((3, 2),)), ()))
        self.assertEqual(piece_paper((TWO,), (("to", ZERO),), 3), ((), ()))

    def test_a_thousand(self):
        row = ((3, (0, 1, 2)), SEVEN)
        box = (("from", (1027, 6561), (4315, 6561)), ("from", (3716632, 5764801), (5758278, 5764801)))
        told = piece_paper(row, box, 8)
        self.assertEqual(len(told[0]) + len(told[1]), 1000)
        self.assertIs(lets_pieces(row, box, told), True)

    def test_those_across_are_counted(self):
        row = (FIVE, SEVEN)
        box = (("from", (31, 1000), (351, 500)), ("from", (21, 1000), (367, 1000)))
        told = piece_paper(row, box, 6)
        self.assertEqual((len(told[0]), len(told[1])), (23 * 38, 1000 - 23 * 38))
        self.assertIs(lets_pieces(row, box, told), True)
        # Without those across there would be fewer than a thousand.
        box = (("from", (63, 100), (91, 100)), ("from", (353, 1000), (122, 125)))
        with self.assertRaises(TooMany) as caught:
            piece_paper(row, box, 6)
        self.assertEqual(caught.exception.word, "pieces")

    def test_more_are_refused(self):
        thousand_and_one = (
            (THREE, SIXTEEN), (("from", (4049, 6561), (5042, 6561)), ("from", (149133077, 2147483648), (918959105, 4294967296))),
        )
        for row, box in (
            thousand_and_one, ((SEVEN, SIXTEEN), (("from", (1, 10), (9, 11)), ("from", (1, 9), (10, 11)))),
            ((TWO, THREE, FIVE, SEVEN), (("to", (10, 11)),) * 4),
        ):
            with self.assertRaises(TooMany) as caught:
                piece_paper(row, box, 8)
            self.assertEqual(caught.exception.word, "pieces")
            piece_paper(row, box, 1)


if __name__ == "__main__":
    unittest.main()
