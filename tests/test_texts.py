"""Texts and their reading: points 20 to 23."""

import unittest
from fractions import Fraction

from evenpoints.errors import NoText
from evenpoints.parsing import read_box, read_fraction, read_point, read_points
from evenpoints.texts import box_text, fraction_text, point_text, points_text, side_text
from things import NUMBERS, all_sides, scattered, small

LONGEST = 10 ** 1000 - 1
NO_FRACTIONS = (
    "", " ", "-", "+", "/", "-/", "/2", "1/", "-0", "-0/1", "00", "03", "-03", "0/1", "0/2", "1/1", "-1/1", "5/1",
    "2/4", "-2/4", "3/3", "1/0", "0/0", "1/-2", "-1/-2", "+1", "+1/2", "1/+2", " 1", "1 ", "1 /2", "1/ 2", "1/02",
    "01/2", "1//2", "1/2/3", "--1", "1-", "1.5", "1e3", "1_0", "0x1", "a", "1a", "a/2", "1/a", "1,2", "1:2", "(1, 2)",
    "\u00b2", "\u0661", "1/\u0662", "1\n", "\n1", "1/2\n", "None", "True",
)


class FractionTextTest(unittest.TestCase):
    def test_written(self):
        for one, text in (((0, 1), "0"), ((5, 1), "5"), ((-5, 1), "-5"), ((1, 2), "1/2"), ((-7, 3), "-7/3"),
                          ((100, 1), "100"), ((10 ** 59, 10 ** 59 + 1), f"{10 ** 59}/{10 ** 59 + 1}")):
            self.assertEqual(fraction_text(one), text)
            self.assertEqual(read_fraction(text), one)

    def test_each_is_read_again(self):
        for one in {small(Fraction(n, d)) for n in range(-30, 31) for d in range(1, 12)}:
            self.assertEqual(read_fraction(fraction_text(one)), one)

    def test_a_thousand_figures(self):
        for one in ((LONGEST, 1), (-LONGEST, 1), (1, LONGEST), (-LONGEST, LONGEST - 1), (LONGEST - 1, LONGEST)):
            text = fraction_text(one)
            self.assertEqual(read_fraction(text), one)

    def test_figures_of_all_lengths(self):
        for many in list(range(1, 140)) + [191, 192, 193, 999, 1000]:
            for n in (10 ** (many - 1), 10 ** many - 1, 10 ** (many - 1) + 7, 7 * 10 ** (many - 1) + 10 ** (many // 2)):
                self.assertEqual(fraction_text((n, 1)), str(n))
                self.assertEqual(fraction_text((-n, 1)), str(-n))
                self.assertEqual(fraction_text((1, n + 1)), f"1/{n + 1}")

    def test_more_figures_than_python_writes_at_once(self):
        self.assertEqual(fraction_text((10 ** 5000, 1)), "1" + "0" * 5000)
        self.assertEqual(fraction_text((-(10 ** 9999) - 5, 10 ** 5000)), "-1" + "0" * 9998 + "5/1" + "0" * 5000)

    def test_more_figures_tell_none(self):
        for more in ("1" + "0" * 1000, "9" * 1001, "1" * 5000, "1" * 100000):
            for text in (more, "-" + more, "1/" + more, "-1/" + more, more + "/7", more + "/" + more):
                self.assertIsNone(read_fraction(text))
        self.assertIsNone(read_fraction("0" * 5000))
        self.assertIsNone(read_fraction("-" + "1" * 1000 + "/" + "9" * 1001))

    def test_no_others_are_read(self):
        for text in NO_FRACTIONS:
            self.assertIsNone(read_fraction(text), text)

    def test_only_what_is_written_is_read(self):
        signs = "0123/- "
        texts = [""]
        for _ in range(4):
            texts = [text + sign for text in texts for sign in signs] + [""]
            for text in texts:
                one = read_fraction(text)
                if one is not None:
                    self.assertEqual(fraction_text(one), text)


class WrittenTest(unittest.TestCase):
    def test_examples(self):
        self.assertEqual(point_text(((0, 1),)), "0")
        self.assertEqual(point_text(((1, 2), (0, 1), (2, 3))), "1/2,0,2/3")
        self.assertEqual(points_text((((0, 1), (1, 2)), ((1, 3), (0, 1)))), "0,1/2 1/3,0")
        self.assertEqual(side_text(("to", (1, 2))), "to:1/2")
        self.assertEqual(side_text(("from", (-1, 1), (1, 2))), "from:-1:1/2")
        self.assertEqual(side_text(("round", (1, 1), (-1, 3))), "round:1:-1/3")
        self.assertEqual(box_text((("to", (1, 1)), ("round", (1, 2), (0, 1)))), "to:1,round:1/2:0")

    def test_points_are_read_again(self):
        for s in range(1, 5):
            for many in (1, 2, 40):
                points = scattered(many, s)
                self.assertEqual(read_points(s, points_text(points)), points)
                for point in points:
                    self.assertEqual(read_point(s, point_text(point)), point)
            for x in NUMBERS:
                self.assertEqual(read_point(s, point_text((x,) * s)), (x,) * s)

    def test_boxes_are_read_again(self):
        sides = all_sides()
        for k, side in enumerate(sides):
            for s in range(1, 5):
                box = tuple(sides[(k + 37 * j) % len(sides)] for j in range(s))
                self.assertEqual(read_box(s, box_text(box)), box)
                self.assertEqual(box_text(box), ",".join(side_text(side) for side in box))

    def test_long_numbers(self):
        point = ((LONGEST - 1, LONGEST), (1, LONGEST))
        self.assertEqual(read_point(2, point_text(point)), point)
        self.assertEqual(read_points(2, points_text((point,) * 3)), (point,) * 3)
        box = (("to", (-1, LONGEST)), ("from", (1 - LONGEST, LONGEST), (1, 2)))
        self.assertEqual(read_box(2, box_text(box)), box)


class PlacesTest(unittest.TestCase):
    def refused(self, read, s, text, place):
        with self.assertRaises(NoText, msg=(s, text)) as caught:
            read(s, text)
        self.assertEqual(caught.exception.place, place, (s, text))
        self.assertIs(type(caught.exception.place), int)

    def test_point(self):
        for s, text, place in (
            (1, "", 0), (2, "", 0), (1, " ", 0), (1, " 0", 0), (1, "0 ", 0), (2, "0, 1/2", 1), (2, "0 1/2", 0),
            (1, "1", 0), (1, "-1/2", 0), (1, "3/2", 0), (1, "2/4", 0), (1, "-0", 0), (1, "1/1", 0), (1, "+0", 0),
            (2, "0,1", 1), (2, "1,1", 0), (3, "0,0,7/5", 2),
            (2, "0", 1), (3, "0", 1), (3, "0,0", 2), (4, "0,0,0", 3), (4, "1/2", 1),
            (1, "0,0", 1), (2, "0,0,0", 2), (1, "0,0,0,0", 1), (4, "0,0,0,0,0,0,0", 4),
            (2, "0,", 1), (2, ",0", 0), (2, ",", 0), (1, "0,", 1), (1, ",", 0), (2, "0,0,", 2), (2, "0,,0", 1),
            (1, "0,0,x", 2), (2, "0,0,0,1", 3), (3, "0,x", 1), (4, "x", 0), (1, "0,0,0,0,0,-1/2", 5),
            (1, "to:1/2", 0), (1, "(0, 1)", 0), (1, "1/" + "9" * 1001, 0),
        ):
            self.refused(read_point, s, text, place)

    def test_points(self):
        for s, text, place in (
            (1, "", 0), (2, "", 0), (1, " ", 0), (1, " 0", 0), (1, "0 ", 1), (1, "0  0", 1), (1, "0 0  ", 2),
            (1, "0 1", 1), (1, "0 -1/2", 1), (1, "0 2/4", 1), (1, "0 0 x 0 x", 2),
            (2, "0 0", 0), (2, "0,0 0", 1), (2, "0,0 0,0,0", 1), (2, "0,0 0,1", 1), (1, "0,0", 0), (2, "0,0, 0,0", 0),
            (1, " ".join(["0"] * 41), 40), (1, " ".join(["0"] * 40 + ["x"]), 40), (1, " ".join(["0"] * 90), 40),
            (1, " ".join(["0"] * 39 + ["x"]), 39), (1, " ".join(["0"] * 39 + ["x", "0"]), 39),
            (1, " ".join(["0"] * 40 + ["0", "x"]), 40), (1, " ".join(["0"] * 40) + " ", 40),
            (1, " ".join(["x"] * 41), 0), (1, "0\n0", 0), (1, "0\t0", 0),
        ):
            self.refused(read_points, s, text, place)

    def test_box(self):
        for s, text, place in (
            (1, "", 0), (3, "", 0), (1, "to", 0), (1, "to:", 0), (1, ":1/2", 0), (1, "to:1/2:1", 0), (1, "from:0", 0),
            (1, "from:0:", 0), (1, "from:0:1/2:1", 0), (1, "round:1", 0), (1, "round:0:1:1", 0), (1, "from::1", 0),
            (1, "to:2", 0), (1, "to:-2", 0), (1, "from:0:3/2", 0), (1, "round:-4/3:0", 0), (1, "to:2/4", 0),
            (1, "to:-0", 0), (1, "to:1/1", 0), (1, "To:1", 0), (1, "at:1", 0), (1, "to: 1", 0), (1, " to:1", 0),
            (1, "to:1 ", 0), (1, "to:1:", 0), (1, "1/2", 0), (1, "open:0:1", 0), (1, "half", 0),
            (2, "to:1", 1), (4, "to:1,to:1,to:1", 3), (2, "to:1,to:1,to:1", 2), (1, "to:1,to:1", 1),
            (2, "to:1,x", 1), (1, "to:1,to:1,x", 2), (3, "to:1,x", 1), (2, "to:1,", 1), (2, ",to:1", 0),
            (2, "to:1,,to:1", 1), (2, "to:1 to:1", 0), (1, "to:" + "1" * 5000, 0),
        ):
            self.refused(read_box, s, text, place)

    def test_ends_that_are_read(self):
        self.assertEqual(read_box(1, "to:1"), (("to", (1, 1)),))
        self.assertEqual(read_box(1, "to:-1"), (("to", (-1, 1)),))
        self.assertEqual(read_box(2, "from:1:-1,round:-1:1"), (("from", (1, 1), (-1, 1)), ("round", (-1, 1), (1, 1))))
        self.assertEqual(read_point(1, "0"), ((0, 1),))
        self.assertEqual(read_points(1, " ".join(["0"] * 40)), (((0, 1),),) * 40)

    def test_only_what_is_written_is_read(self):
        signs = ("0", "1", "2", "/", ",", " ", "-")
        texts = [""]
        for _ in range(5):
            texts = [text + sign for text in texts for sign in signs]
            for text in texts:
                for s in (1, 2):
                    self.check(read_point, point_text, s, text)
                    self.check(read_points, points_text, s, text)

    def check(self, read, write, s, text):
        try:
            told = read(s, text)
        except NoText:
            return
        self.assertEqual(write(told), text)


if __name__ == "__main__":
    unittest.main()
