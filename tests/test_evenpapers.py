"""Even papers made, and made of others: points 33 and 35 to 39."""

import unittest
from fractions import Fraction
from itertools import permutations

from evenpoints.errors import TooMany
from evenpoints.evenchecker import lets_even
from evenpoints.evenpapers import even_corner, even_exchanged, even_inner, even_joined, even_paper, even_shadow
from evenpoints.looks import many_looks, unevenness
from papers import FAMILIES, fault_plainly, longest_way, many_nodes, other_paper
from things import big, scattered, small

ZERO, HALF, ONE = (0, 1), (1, 2), (1, 1)
SETS = (
    (((0, 1),),), ((HALF,),), (((0, 1),),) * 3, (((2, 3),),) * 2, scattered(5, 1), scattered(12, 1, seed=3),
    scattered(3, 2), scattered(4, 2, seed=8), scattered(2, 3), scattered(7, 2, bottom=5), scattered(3, 4, bottom=2),
    (((0, 1), (0, 1)), ((0, 1), HALF)), (((1, 3), (0, 1), HALF, (3, 4)),),
)


def cases():
    """Tell (points, family, number) of all sets and families with at most 3,000 looks."""
    return [
        (points, family, unevenness(points, family))
        for points in SETS for family in FAMILIES if many_looks(points, family) <= 3000
    ]


def papers_for(points, family, number, wild=3, most=4000):
    """Tell a made paper and others that are let by."""
    papers = [even_paper(points, family, number)] + [other_paper(points, family, number, k, wild) for k in range(2)]
    return [paper for paper in papers if many_nodes(paper) <= most]


def diagonal(manies):
    """Make points with so many unlike numbers at each side."""
    return tuple(tuple(small(Fraction(k % many, 41)) for many in manies) for k in range(max(manies)))


class MadeTest(unittest.TestCase):
    def let_by(self, points, family, number, paper):
        self.assertIs(lets_even(points, family, number, paper), True)
        self.assertIsNone(fault_plainly(points, family, number, paper))

    def test_of_the_unevenness_and_more(self):
        for points, family, number in cases():
            self.let_by(points, family, number, even_paper(points, family, number))
            for other in (ONE, (7, 2), small(big(number) + Fraction(1, 10 ** 9)), small((big(number) + 1) / 2)):
                self.let_by(points, family, other, even_paper(points, family, other))

    def test_of_less_none(self):
        for points, family, number in cases():
            for tiny in (Fraction(1, 10 ** 58), Fraction(1, 1000), big(number), big(number) + 1):
                self.assertIsNone(even_paper(points, family, small(big(number) - tiny)))

    def test_sixty_figures(self):
        for points, family, number in cases()[:12]:
            more = small(big(number) + Fraction(1, 10 ** 58))
            self.let_by(points, family, more, even_paper(points, family, more))

    def test_three_thousand_looks(self):
        points = diagonal((9, 14, 19))
        self.assertEqual(many_looks(points, "corner"), 3000)
        number = unevenness(points, "corner")
        self.let_by(points, "corner", number, even_paper(points, "corner", number))
        self.assertIsNone(even_paper(points, "corner", ZERO))

    def test_the_most_of_each_family(self):
        for points, family in (
            (scattered(40, 1, bottom=999983), "round"), (scattered(40, 1, bottom=999983), "inner"),
            (diagonal((8, 8)), "inner"), (diagonal((5, 5)), "round"), (diagonal((4, 4, 2)), "inner"),
            (scattered(40, 2, bottom=50), "corner"), (diagonal((8, 8, 8, 3)), "corner"), (diagonal((2, 2, 1)), "round"),
        ):
            self.assertLessEqual(many_looks(points, family), 3000)
            number = unevenness(points, family)
            self.let_by(points, family, number, even_paper(points, family, number))

    def test_more_looks_are_refused(self):
        for manies, family in (((10, 12, 20), "corner"), ((9, 8), "inner"), ((6, 5), "round"), ((40,) * 4, "round")):
            points = diagonal(manies)
            self.assertGreater(many_looks(points, family), 3000)
            for number in (ONE, (5, 1), HALF, ZERO, (-3, 1), (1, 10 ** 59)):
                with self.assertRaises(TooMany) as caught:
                    even_paper(points, family, number)
                self.assertEqual(caught.exception.word, "looks")


class TurnedTest(unittest.TestCase):
    """Papers told of one paper."""

    def test_exchanged(self):
        for points, family, number in cases():
            for paper in papers_for(points, family, number):
                for order in list(permutations(range(len(points[0]))))[:9]:
                    moved = tuple(tuple(point[side] for side in order) for point in points)
                    self.assertIs(lets_even(moved, family, number, even_exchanged(paper, order)), True)

    def test_exchanged_three_about(self):
        # An order that is not its own way back.
        points = (((0, 1), (1, 3), (1, 2)), ((1, 2), (2, 3), (3, 4)))
        number = unevenness(points, "corner")
        moved = tuple((point[1], point[2], point[0]) for point in points)
        paper = even_exchanged(even_paper(points, "corner", number), (1, 2, 0))
        self.assertIs(lets_even(moved, "corner", number, paper), True)
        node = ("cut", 0, 0, HALF, ("cut", 2, 0, (1, 3), (), ()), ())
        self.assertEqual(even_exchanged(node, (1, 2, 0)), ("cut", 2, 0, HALF, ("cut", 1, 0, (1, 3), (), ()), ()))

    def test_shadow(self):
        for points, family, number in cases():
            if len(points[0]) > 1:
                for paper in papers_for(points, family, number):
                    for side in range(len(points[0])):
                        left = tuple(point[:side] + point[side + 1:] for point in points)
                        self.assertIs(lets_even(left, family, number, even_shadow(family, paper, side)), True)

    def test_inner(self):
        for points, family, number in cases():
            if family == "round":
                for paper in papers_for(points, family, number):
                    self.assertIs(lets_even(points, "inner", number, even_inner(paper)), True)

    def test_corner(self):
        for points, family, number in cases():
            if family == "inner":
                for paper in papers_for(points, family, number):
                    self.assertIs(lets_even(points, "corner", number, even_corner(paper)), True)

    def test_one_behind_the_other(self):
        points = scattered(3, 2)
        number = unevenness(points, "round")
        for paper in papers_for(points, "round", number):
            corner = even_corner(even_inner(paper))
            self.assertIs(lets_even(points, "corner", number, corner), True)
            shadow = even_shadow("corner", corner, 0)
            self.assertIs(lets_even(tuple(point[1:] for point in points), "corner", number, shadow), True)

    def test_leaves(self):
        self.assertEqual(even_exchanged((), (0,)), ())
        self.assertEqual(even_shadow("corner", (), 1), ())
        self.assertEqual(even_corner(()), ())
        self.assertIs(lets_even((((0, 1),),), "inner", ONE, even_inner(("ways", 0, (), ()))), True)

    def test_for_all_points_for_which_the_handed_are(self):
        # What is told does not hang on points: one paper, let by for many.
        paper = other_paper(scattered(2, 2), "round", ONE, 3, 4)
        for points in (scattered(5, 2), scattered(40, 2, bottom=999983)):
            for number in (ONE, (9, 10), (1, 2)):
                if fault_plainly(points, "round", number, paper) is None:
                    self.assertIs(lets_even(points, "inner", number, even_inner(paper)), True)
                    left = tuple(point[:1] for point in points)
                    self.assertIs(lets_even(left, "round", number, even_shadow("round", paper, 1)), True)


class JoinedTest(unittest.TestCase):
    def joined_number(self, one, p, other, q):
        m, n = len(one), len(other)
        return small((m * big(p) + n * big(q)) / (m + n))

    def check(self, family, one, p, other, q, papers):
        first, second = papers
        told = even_joined(family, len(one[0]), first, second)
        number = self.joined_number(one, p, other, q)
        self.assertIs(lets_even(one + other, family, number, told), True)
        return told

    def test_made_and_other_papers(self):
        pairs = (
            (scattered(5, 1), scattered(4, 1, seed=7)), ((((0, 1),),), scattered(12, 1, seed=3)),
            (scattered(3, 2), scattered(2, 2, seed=7)), (scattered(2, 3), scattered(2, 3, seed=4)),
            ((((1, 2), (1, 2)),) * 3, (((0, 1), (3, 4)),)), (scattered(3, 1), scattered(3, 1)),
        )
        for one, other in pairs:
            for family in FAMILIES:
                if many_looks(one, family) <= 3000 and many_looks(other, family) <= 3000:
                    p, q = unevenness(one, family), unevenness(other, family)
                    firsts, seconds = papers_for(one, family, p, 2, 300), papers_for(other, family, q, 2, 300)
                    for papers in list(zip(firsts, seconds)) + list(zip(firsts, seconds[::-1])):
                        self.check(family, one, p, other, q, papers)
                        self.check(family, other, q, one, p, papers[::-1])

    def test_forty_points_together(self):
        one, other = scattered(20, 1, bottom=997), scattered(20, 1, bottom=991, seed=5)
        for family in FAMILIES:
            p, q = small(big(unevenness(one, family)) * 2), unevenness(other, family)
            self.check(family, one, p, other, q, (even_paper(one, family, p), even_paper(other, family, q)))

    def test_other_numbers_than_the_unevenness(self):
        one, other = scattered(3, 1), scattered(5, 1, seed=2)
        for family in FAMILIES:
            for p, q in ((ONE, (1, 1)), ((3, 2), unevenness(other, family)), (unevenness(one, family), (5, 1))):
                papers = (other_paper(one, family, p, 1, 3), other_paper(other, family, q, 2, 3))
                self.check(family, one, p, other, q, papers)

    def chain(self, many, bottom, way):
        """Cut so many times, one cut within another; by any family but "round"."""
        paper = ()
        for k in range(many, 0, -1):
            at = (1, bottom ** k) if way == 0 else (bottom ** k - 1, bottom ** k)
            paper = ("cut", 0, 0, at) + ((paper, ()) if way == 0 else ((), paper))
        return paper

    def test_ways_of_eighteen_numbers(self):
        points = (((0, 1),), ((1, 2),))
        for family in ("corner", "inner"):
            for one, other in ((0, 0), (0, 1), (1, 0), (1, 1)):
                for bottoms in ((2, 3), (3, 2), (2, 2)):
                    first, second = self.chain(18, bottoms[0], one), self.chain(18, bottoms[1], other)
                    self.assertEqual(longest_way(first), 18)
                    told = self.check(family, points, ONE, points, ONE, (first, second))
                    self.assertLessEqual(longest_way(told), 36)

    def test_ways_of_eighteen_numbers_by_round(self):
        points = (((0, 1),), ((1, 2),))
        chains = [("ways", 0, self.chain(17, bottom, way), ()) for bottom in (2, 3) for way in range(2)]
        late = ("cut", 0, 1, HALF, ("ways", 0, (), ()), ("cut", 0, 0, HALF, ("ways", 0, (), ()), ("ways", 0, (), ())))
        for first in chains + [late]:
            for second in chains + [late]:
                told = self.check("round", points, ONE, points, ONE, (first, second))
                self.assertLessEqual(longest_way(told), 36)

    def test_cuts_at_the_same_numbers(self):
        paper = ("cut", 0, 0, HALF, ("cut", 0, 0, (1, 4), (), ()), ("cut", 0, 0, (3, 4), (), ()))
        points = (((0, 1),), ((1, 2),))
        self.check("corner", points, HALF, points, HALF, (paper, paper))


if __name__ == "__main__":
    unittest.main()
