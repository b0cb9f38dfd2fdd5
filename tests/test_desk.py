"""A desk: point 90, with points 20 to 23, 75 and 76."""

import re
import unittest
from math import gcd
from random import Random

from evenpoints.desk import Desk
from evenpoints.errors import EvenError, NoDeed, NoRow, TooMany
from evenpoints.looks import all_worst, many_looks, unevenness
from own_field import Record
from things import inside_plainly

FAMILIES = ("corner", "inner", "round")
FIGURE = re.compile(r"0|[1-9][0-9]*")
FRACTION = re.compile(r"(-?)(0|[1-9][0-9]*)(/([1-9][0-9]*))?")

ROWS = {
    1: (
        "put 0", "put 1/2", "put 3/7", "put 999999999998/999999999999", "take 0", "take 1", "take 12", "undo", "numbers", "changed",
        "count to:1/2", "count from:-1:1/2", "count round:1/2:-1/3", "uneven corner", "uneven inner", "uneven round", "worst corner",
        "worst inner", "worst round", "watch to:1", "watch from:0:1/3", "watched 0", "watched 1", "watched 10",
    ),
    2: (
        "put 0,0", "put 1/2,1/3", "put 9/10,0", "take 0", "take 3", "undo", "numbers", "changed", "count to:1/2,to:1",
        "count from:1/3:1/2,round:1/2:0", "uneven corner", "worst corner", "watch to:1,to:1/2", "watch round:1:-1,from:0:1", "watched 0",
    ),
    3: ("put 0,1/2,2/3", "count to:1,to:1,to:-1/2", "watch to:1,from:0:1/2,to:1", "watched 0", "take 1", "undo", "uneven corner"),
    4: ("put 0,1/2,2/3,1/10", "count to:1,to:1,to:-1/2,to:0", "watch to:1,from:0:1/2,to:1,to:1", "watched 0", "worst corner", "undo"),
}


def read_plainly(text):
    """Read a fraction as stage 3 writes it, else tell None."""
    found = FRACTION.fullmatch(text)
    if not found or (found[1] and found[2] == "0") or len(found[2]) > 1000 or len(found[4] or "") > 1000:
        return None
    top, bottom = int(found[1] + found[2]), int(found[4] or "1")
    if found[4] == "1" or gcd(top, bottom) != 1:
        return None
    return (top, bottom)


def point_plainly(s, text):
    """Read a point of s sides, else tell None."""
    numbers = [read_plainly(piece) for piece in text.split(",")]
    if len(numbers) != s or not all(x and 0 <= x[0] < x[1] for x in numbers):
        return None
    return tuple(numbers)


def side_plainly(text):
    """Read a side, else tell None."""
    word, *ends = text.split(":")
    ends = [read_plainly(end) for end in ends]
    if {"to": 1, "from": 2, "round": 2}.get(word) != len(ends) or not all(t and -t[1] <= t[0] <= t[1] for t in ends):
        return None
    return (word,) + tuple(ends)


def box_plainly(s, text):
    """Read a box of s sides, else tell None."""
    sides = tuple(side_plainly(piece) for piece in text.split(","))
    return sides if len(sides) == s and all(sides) else None


def text_of(one):
    """Write a fraction."""
    return f"{one[0]}/{one[1]}" if one[1] != 1 else str(one[0])


def box_text_of(box):
    """Write a box."""
    return ",".join(":".join([side[0]] + [text_of(t) for t in side[1:]]) for side in box)


def listed(numbers):
    """Write numbers with blanks between."""
    return " ".join(map(str, numbers)) or "-"


class Clerk:
    """Answers rows by an own record: a set of right answers, or a refusal's class and field."""

    def __init__(self, s):
        self.s = s
        self.record = Record()

    def say(self, row):
        words = row.split(" ")
        asked = getattr(self, "say_" + words[0], None) if words[0] in (
            "put", "take", "undo", "numbers", "count", "uneven", "worst", "watch", "watched", "changed") else None
        short = words[0] in ("undo", "numbers", "changed")
        if asked is None or len(words) != (1 if short else 2):
            return (NoRow, row)
        told = asked(*words[1:])
        return (NoRow, row) if told is None else told

    def say_put(self, word):
        point = point_plainly(self.s, word)
        if point is None:
            return None
        if len(self.record.numbers()) == 40:
            return (NoDeed, "full")
        return {str(self.record.put(point))}

    def say_take(self, word):
        if not FIGURE.fullmatch(word):
            return None
        if word not in [str(number) for number in self.record.numbers()]:
            return (NoDeed, "number")
        self.record.take(int(word))
        return {"ok"}

    def say_undo(self):
        if len(self.record.states) == 1:
            return (NoDeed, "undo")
        self.record.undo()
        return {"ok"}

    def say_numbers(self):
        return {listed(self.record.numbers())}

    def say_changed(self):
        return {listed(self.record.turned)}

    def say_count(self, word):
        box = box_plainly(self.s, word)
        return None if box is None else {str(inside_plainly(self.record.points(), box, "half"))}

    def refused(self, family):
        if not self.record.points():
            return (NoDeed, "none")
        return (TooMany, "looks") if many_looks(self.record.points(), family) > 3000 else None

    def say_uneven(self, word):
        if word not in FAMILIES:
            return None
        return self.refused(word) or {text_of(unevenness(tuple(self.record.points()), word))}

    def say_worst(self, word):
        if word not in FAMILIES:
            return None
        if self.refused(word):
            return self.refused(word)
        points = tuple(self.record.points())
        number = text_of(unevenness(points, word))
        return {f"{number} {way} {box_text_of(box)}" for way, box in all_worst(points, word)}

    def say_watch(self, word):
        box = box_plainly(self.s, word)
        if box is None:
            return None
        self.record.boxes.append(box)
        return {str(len(self.record.boxes) - 1)}

    def say_watched(self, word):
        if word not in [str(k) for k in range(len(self.record.boxes))]:
            return None
        return {str(self.record.counts()[int(word)])}


def told_of(desk, row):
    """Tell a desk's answer, or a refusal's class and field."""
    try:
        return desk.say(row)
    except NoRow as refusal:
        return (NoRow, refusal.row)
    except NoDeed as refusal:
        return (NoDeed, refusal.word)
    except TooMany as refusal:
        return (TooMany, refusal.word)


def changed_rows(row):
    """Make all rows with one sign put in, left out, doubled or exchanged."""
    made = []
    for place in range(len(row) + 1):
        made += [row[:place] + sign + row[place:] for sign in "01 ,/:-~ t"]
    for place in range(len(row)):
        made.append(row[:place] + row[place + 1:])
        made += [row[:place] + sign + row[place + 1:] for sign in "02 ,/:-u"]
    return made


class DeskTest(unittest.TestCase):
    def check(self, desk, clerk, row):
        right, told = clerk.say(row), told_of(desk, row)
        if isinstance(right, set):
            self.assertIs(type(told), str, row)
            self.assertIn(told, right, row)
        else:
            self.assertEqual(told, right, row)
        return told

    def same(self, desk, clerk):
        """Look whether a desk is in its clerk's state."""
        for row in ["numbers", "changed"] + [f"watched {k}" for k in range(min(3, len(clerk.record.boxes)))]:
            self.check(desk, clerk, row)

    def test_each_row(self):
        for s, rows in ROWS.items():
            desk, clerk = Desk(s), Clerk(s)
            for row in rows + rows[::-1] + rows:
                self.check(desk, clerk, row)
                self.same(desk, clerk)

    def test_rows_in_any_order(self):
        for s, rows in ROWS.items():
            chance = Random(f"desk {s}")
            desk, clerk = Desk(s), Clerk(s)
            for _ in range(120):
                self.check(desk, clerk, chance.choice(rows))
                self.same(desk, clerk)

    def test_an_example(self):
        desk = Desk(1)
        for row, answer in (
            ("numbers", "-"), ("changed", "-"), ("count to:1", "0"), ("watch to:1/2", "0"), ("put 0", "0"), ("changed", "0"), ("put 1/2", "1"),
            ("changed", "-"), ("numbers", "0 1"), ("watch from:0:1", "1"), ("watched 0", "1"), ("watched 1", "2"), ("uneven corner", "1/2"),
            ("take 0", "ok"), ("changed", "0 1"), ("numbers", "1"), ("undo", "ok"), ("changed", "0 1"), ("undo", "ok"), ("numbers", "0"),
            ("uneven corner", "1"), ("worst corner", "1 over to:0"), ("put 1/3", "1"), ("undo", "ok"), ("undo", "ok"), ("numbers", "-"),
            ("watched 1", "0"), ("watch round:1/2:-1/3", "2"), ("put 3/4", "0"), ("changed", "1 2"), ("uneven corner", "3/4"),
            ("worst corner", "3/4 lack to:3/4"),
        ):
            self.assertEqual(desk.say(row), answer, row)

    def test_two_sides(self):
        desk = Desk(2)
        self.assertEqual(desk.say("put 1/2,0"), "0")
        self.assertEqual(desk.say("count from:0:1,to:1/3"), "1")
        self.assertEqual(desk.say("uneven corner"), "1")
        self.assertIn(desk.say("worst corner"), ("1 over to:1/2,to:0", "1 over to:1,to:0"))

    def test_rows_with_signs_changed(self):
        for s, rows in ROWS.items():
            desk, clerk = Desk(s), Clerk(s)
            for row in rows:
                for changed in changed_rows(row):
                    if self.check(desk, clerk, changed) == (NoRow, changed):
                        continue
                    self.same(desk, clerk)
                self.same(desk, clerk)
                self.check(desk, clerk, row)

    def test_rows_that_are_none(self):
        for s in (1, 2):
            desk, clerk = Desk(s), Clerk(s)
            point, box = ",".join(["1/2"] * s), ",".join(["to:1/2"] * s)
            for row in (f"put {point}", f"watch {box}"):
                self.check(desk, clerk, row)
            for row in (
                "", " ", "  ", "-", "put", "put ", " put", f" put {point}", f"put {point} ", f"put  {point}", f"put {point} {point}",
                f"PUT {point}", f"Put {point}", f"puts {point}", f"put {point},1/2", f"put,{point}", "put 1", "put -1/2",
                "put 1/1", "put 2/4", "put 0/1", "put 1.5", "put 01", "put 1/02", "put 3/2", "put +1/2", "put one", "put 1/0", "put 1/-2",
                "put 0,", "put ,0", "put ,", "take", "take ", "take -1", "take 00", "take 01", "take +0", "take 0 0", "take 0/1", "take a",
                "take  0", "take 0 ", " take 0", "take 1/2", "take 0,0", "undo ", " undo", "undo 1", "undo undo", "undoo", "und", "numbers ",
                "numbers 1", " numbers", "number", "count", "count ", f"count {box} ", f"count {box},to:1", "count to", "count to:", "count to:2",
                "count from:1", "count from:0:1:1", "count all", "count to:1/2:1", "count :1", "count to:-2", "count to:2/4", f"count {point}",
                "uneven", "uneven ", "uneven corners", "uneven Corner", "uneven to", "uneven corner inner", "uneven corner ", "uneven  corner",
                "worst", "worst ", "worst round ", "worst half", "worst corner corner", "watch", "watch ", f"watch {box} {box}", f"watch {point}",
                "watched", "watched ", "watched 1", "watched -1", "watched 00", "watched 01", "watched 0 0", "watched a", "watched -", "changed ",
                "changed 0", " changed", "change", "field", "points", "help", "ok", "put~0", "~", "0", "1/2", "to:1/2", "corner", "say put 0",
            ):
                self.assertEqual(clerk.say(row), (NoRow, row))
                self.assertEqual(told_of(desk, row), (NoRow, row))
                self.same(desk, clerk)

    def test_the_very_text(self):
        for row in ("", "  put 0", "take 007", "x" * 2000, "put " + "1" * 1990, "watched 0"):
            with self.assertRaises(NoRow) as caught:
                Desk(1).say(row)
            self.assertIsInstance(caught.exception, EvenError)
            self.assertEqual(caught.exception.row, row)

    def test_points_and_boxes_of_other_sides(self):
        for s in range(1, 5):
            desk, clerk = Desk(s), Clerk(s)
            for many in range(6):
                for row in ("put " + ",".join(["0"] * many), "count " + ",".join(["to:1"] * many), "watch " + ",".join(["to:1"] * many)):
                    self.assertIs(self.check(desk, clerk, row) == (NoRow, row), many != s)

    def test_the_fields_refusals(self):
        desk, clerk = Desk(1), Clerk(1)
        for row, word in (("undo", "undo"), ("take 0", "number"), ("uneven corner", "none"), ("worst round", "none")):
            self.assertEqual(self.check(desk, clerk, row), (NoDeed, word))
        for number in range(40):
            self.assertEqual(self.check(desk, clerk, f"put {number}/41" if number else "put 0"), str(number))
        self.assertEqual(self.check(desk, clerk, "put 1/2"), (NoDeed, "full"))
        # A row that is none is refused ahead of all else.
        self.assertEqual(self.check(desk, clerk, "put 2/4"), (NoRow, "put 2/4"))
        self.assertEqual(self.check(desk, clerk, "take 40"), (NoDeed, "number"))
        self.assertEqual(self.check(desk, clerk, "numbers"), listed(range(40)))
        self.check(desk, clerk, "uneven inner")
        self.assertEqual(self.check(desk, clerk, "take 39"), "ok")
        self.assertEqual(self.check(desk, clerk, "take 39"), (NoDeed, "number"))
        self.assertEqual(self.check(desk, clerk, "put 1/2"), "40")

    def test_too_many(self):
        desk, clerk = Desk(2), Clerk(2)
        for k in range(1, 15):
            self.check(desk, clerk, f"put 1/{k + 1},1/{k + 2}")
        for row in ("uneven inner", "worst inner", "uneven round", "worst round"):
            self.assertEqual(self.check(desk, clerk, row), (TooMany, "looks"))
            self.same(desk, clerk)
        self.assertNotEqual(self.check(desk, clerk, "uneven corner"), (TooMany, "looks"))

    def test_long_figures(self):
        desk, clerk = Desk(1), Clerk(1)
        self.check(desk, clerk, "put 0")
        for many in (2, 18, 60, 999, 1000, 1001, 1500, 1990):
            for row in ("take " + "1" * many, "take 1" + "0" * (many - 1), "take " + "9" * many):
                self.assertEqual(self.check(desk, clerk, row), (NoDeed, "number"))
            for row in ("take 0" + "1" * many, "take " + "0" * many, "take " + "1" * many + "a", "watched " + "1" * many, "take -" + "1" * many):
                self.assertEqual(self.check(desk, clerk, row), (NoRow, row))
        for number, many in enumerate((60, 900, 999, 1000), 1):
            self.assertEqual(self.check(desk, clerk, "put 1/1" + "0" * (many - 1)), str(number))
            self.check(desk, clerk, "count from:0:1/1" + "0" * (many - 1))
            self.check(desk, clerk, "uneven corner")
            self.check(desk, clerk, "worst corner")
        for row in ("put 1/1" + "0" * 1000, "count to:1/1" + "0" * 1000, "watch to:-1/1" + "0" * 1000):
            self.assertEqual(self.check(desk, clerk, row), (NoRow, row))

    def test_answers_with_very_long_figures(self):
        # The numbers that boxes are made of have a thousand figures, their products more than Python writes at once.
        desk = Desk(4)
        for side in range(4):
            numbers = ["0"] * 4
            numbers[side] = "1/" + "9" * 999 + "7"
            self.assertEqual(desk.say("put " + ",".join(numbers)), str(side))
        number, way, box = desk.say("worst corner").split(" ")
        self.assertEqual(desk.say("uneven corner"), number)
        self.assertRegex(number, r"\A([1-9][0-9]*/[1-9][0-9]*|1)\Z")
        told = self.uneven_of_long_ones(10 ** 1000 - 3)
        self.assertEqual(number, told)

    def uneven_of_long_ones(self, bottom):
        """Work out the unevenness of the four points by what can be worst, all sides alike.

        A box has k sides that end at 1 / bottom or at 1 and the others at 0 or at 1 / bottom. All points lie
        shut in the box of four sides 1 / bottom, so its over, 1 less its size, is the greatest.
        """
        top, below = bottom ** 4 - 1, bottom ** 4
        pieces = []
        for n in (top, below):
            figures = []
            while n:
                n, rest = divmod(n, 10 ** 500)
                figures.append(str(rest).zfill(500))
            pieces.append("".join(reversed(figures)).lstrip("0"))
        return "/".join(pieces)

    def test_two_desks_side_by_side(self):
        chance = Random("two desks")
        pairs = [(Desk(1), Clerk(1), 1), (Desk(1), Clerk(1), 1), (Desk(2), Clerk(2), 2)]
        for _ in range(150):
            desk, clerk, s = chance.choice(pairs)
            self.check(desk, clerk, chance.choice(ROWS[s]))
            for one, other, sides in pairs:
                self.same(one, other)


if __name__ == "__main__":
    unittest.main()
