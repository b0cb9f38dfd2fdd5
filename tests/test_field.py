"""A field: points 75 and 76, and point 5 of what was put in and taken out."""

import unittest
from random import Random

from evenpoints.errors import EvenError, NoDeed, TooMany
from evenpoints.field import Field
from evenpoints.looks import all_worst, many_looks, unevenness
from own_field import BOXES, Record
from things import HALF, HUGE, NUMBERS, OTHER_THINGS, THIRD, deep, inside_plainly, scattered

FAMILIES = ("corner", "inner", "round")
ZERO = (0, 1)


def word_of(action, *handed):
    """Tell the word of a refusal, or None."""
    try:
        action(*handed)
    except NoDeed as refusal:
        assert isinstance(refusal, EvenError)
        return refusal.word
    return None


def told_by(field, watches=0):
    """Tell all that a field tells, without what hangs on the last deed."""
    return (field.numbers(), field.points(), [field.watched(k) for k in range(watches)])


class RandomTest(unittest.TestCase):
    def compare(self, field, record, s):
        self.assertEqual(field.numbers(), record.numbers())
        self.assertEqual(field.points(), record.points())
        self.assertEqual([field.watched(k) for k in range(len(record.boxes))], record.counts())
        self.assertEqual(field.changed(), record.turned)
        for box in BOXES[s]:
            self.assertEqual(field.count_of(box), inside_plainly(record.points(), box, "half"))

    def do(self, field, record, chance, s):
        """Do one deed, perhaps one that is refused, on both."""
        deed = chance.choice(("put", "put", "put", "take", "take", "undo", "undo", "watch", "bad"))
        if deed == "put" and len(record.numbers()) < 40:
            point = tuple(chance.choice(NUMBERS) for _ in range(s))
            self.assertEqual(field.put(point), record.put(point))
        elif deed == "take":
            number = chance.randrange(-1, record.many_puts() + 2)
            if number in record.standing():
                self.assertIsNone(field.take(number))
                record.take(number)
            else:
                self.assertEqual(word_of(field.take, number), "number")
        elif deed == "undo":
            if len(record.states) > 1:
                self.assertIsNone(field.undo())
                record.undo()
            else:
                self.assertEqual(word_of(field.undo), "undo")
        elif deed == "watch" and len(record.boxes) < 8:
            box = chance.choice(BOXES[s])
            self.assertEqual(field.watch(box), len(record.boxes))
            record.boxes.append(box)
        elif deed == "bad":
            thing = chance.choice(OTHER_THINGS)
            self.assertEqual(word_of(field.put, thing), "point")
            if type(thing) is not int or thing not in record.standing():
                self.assertEqual(word_of(field.take, thing), "number")

    def test_deeds_in_any_order(self):
        for s in range(1, 5):
            for seed in range(2):
                chance = Random(f"field {s} {seed}")
                field, record = Field(s), Record()
                for _ in range(150):
                    self.do(field, record, chance, s)
                    self.compare(field, record, s)
                while len(record.states) > 1:
                    field.undo()
                    record.undo()
                    self.compare(field, record, s)
                self.assertEqual((field.numbers(), field.points()), ([], []))
                self.assertEqual(word_of(field.undo), "undo")
                self.compare(field, record, s)

    def test_two_fields_side_by_side(self):
        chance = Random("two fields")
        pairs = [(Field(2), Record(), 2), (Field(2), Record(), 2), (Field(1), Record(), 1)]
        for _ in range(200):
            field, record, s = chance.choice(pairs)
            self.do(field, record, chance, s)
            for one, other, sides in pairs:
                self.compare(one, other, sides)


class DeedTest(unittest.TestCase):
    def test_a_new_field(self):
        field = Field(2)
        self.assertEqual((field.numbers(), field.points(), field.changed()), ([], [], []))
        self.assertEqual(field.count_of(BOXES[2][0]), 0)
        self.assertEqual(word_of(field.undo), "undo")
        for family in FAMILIES:
            self.assertEqual(word_of(field.uneven, family), "none")
            self.assertEqual(word_of(field.worst, family), "none")

    def test_numbers_after_takes_and_undos(self):
        field = Field(1)
        self.assertEqual([field.put((HALF,)), field.put((THIRD,)), field.put((ZERO,))], [0, 1, 2])
        field.take(1)
        self.assertEqual((field.numbers(), field.points()), ([0, 2], [(HALF,), (ZERO,)]))
        # A taken number is not told again while its put stands.
        self.assertEqual(field.put((THIRD,)), 3)
        self.assertEqual(field.numbers(), [0, 2, 3])
        self.assertEqual(word_of(field.take, 1), "number")
        field.undo()
        self.assertEqual(field.numbers(), [0, 2])
        # An undone put's number is told again.
        self.assertEqual(field.put((HALF,)), 3)
        field.undo()
        field.undo()
        self.assertEqual(field.points(), [(HALF,), (THIRD,), (ZERO,)])
        field.undo()
        self.assertEqual((field.numbers(), field.put((HALF,))), ([0, 1], 2))

    def test_the_last_one_taken(self):
        field = Field(1)
        field.put((HALF,))
        field.take(0)
        self.assertEqual((field.numbers(), field.points()), ([], []))
        self.assertEqual(word_of(field.uneven, "corner"), "none")
        self.assertEqual(word_of(field.worst, "round"), "none")
        self.assertEqual(word_of(field.take, 0), "number")
        self.assertEqual(field.put((THIRD,)), 1)
        field.undo()
        field.undo()
        self.assertEqual(field.points(), [(HALF,)])
        field.undo()
        self.assertEqual(word_of(field.undo), "undo")
        self.assertEqual(field.put((THIRD,)), 0)

    def test_an_undo_is_not_undone(self):
        field = Field(1)
        field.put((HALF,))
        field.put((THIRD,))
        field.undo()
        field.undo()
        self.assertEqual(word_of(field.undo), "undo")
        self.assertEqual(field.numbers(), [])

    def test_points_that_are_none(self):
        for s in range(1, 5):
            field = Field(s)
            good = (HALF,) * s
            for thing in OTHER_THINGS + (
                deep(39), good[:-1], good + (HALF,), list(good), good[:-1] + ([1, 2],), good[:-1] + ((1, 1),), good[:-1] + ((-1, 2),),
                good[:-1] + ((2, 4),), good[:-1] + ((True, 2),), good[:-1] + (None,), "1/2", (good,), good[:-1] + ((0, 2),),
                good[:-1] + ((HUGE, 1),),
            ):
                self.assertEqual(word_of(field.put, thing), "point", thing)
            self.assertEqual((field.numbers(), word_of(field.undo)), ([], "undo"))
            self.assertEqual(field.put(good), 0)

    def test_numbers_that_do_not_stand(self):
        field = Field(1)
        field.put((HALF,))
        field.put((THIRD,))
        field.take(0)
        for thing in (
            0, 2, -1, -2, HUGE, -HUGE, True, False, None, "1", "", (1,), [1], (), [], ((1, 1),), (1, 1), deep(39), 10 ** 59,
        ):
            self.assertEqual(word_of(field.take, thing), "number", thing)
            self.assertEqual((field.numbers(), field.points()), ([1], [(THIRD,)]))
        self.assertIsNone(field.take(1))

    def test_forty_points(self):
        field = Field(1)
        for number in range(40):
            self.assertEqual(field.put((HALF,)), number)
        self.assertEqual(word_of(field.put, (HALF,)), "full")
        # "point" is told ahead of "full".
        self.assertEqual(word_of(field.put, (HALF, HALF)), "point")
        self.assertEqual(word_of(field.put, None), "point")
        self.assertEqual(len(field.points()), 40)
        field.take(7)
        self.assertEqual(field.put((THIRD,)), 40)
        self.assertEqual(word_of(field.put, (THIRD,)), "full")
        self.assertEqual(field.numbers(), [n for n in range(41) if n != 7])
        field.undo()
        field.undo()
        self.assertEqual((field.numbers(), word_of(field.put, (THIRD,))), (list(range(40)), "full"))
        for _ in range(40):
            field.undo()
        self.assertEqual((field.numbers(), word_of(field.undo)), ([], "undo"))

    def test_forty_stand_not_forty_puts(self):
        field = Field(2)
        for number in range(100):
            self.assertEqual(field.put((HALF, ZERO)), number)
            if number % 3:
                field.take(number)
        self.assertEqual(field.numbers(), list(range(0, 100, 3)))
        for _ in range(166):
            field.undo()
        self.assertEqual(word_of(field.undo), "undo")

    def test_refused_deeds_change_nothing(self):
        field = Field(1)
        watch = field.watch((("to", (1, 1)),))
        field.put((HALF,))
        before = told_by(field, 1)
        for action, thing, word in ((field.put, None, "point"), (field.take, 5, "number"), (field.take, None, "number")):
            self.assertEqual(word_of(action, thing), word)
            self.assertEqual((told_by(field, 1), field.changed()), (before, [watch]))
        field.undo()
        self.assertEqual(field.changed(), [watch])
        self.assertEqual(word_of(field.undo), "undo")
        self.assertEqual(field.changed(), [watch])
        self.assertEqual(field.put((THIRD,)), 0)


class AskedTest(unittest.TestCase):
    def test_uneven_and_worst(self):
        for s in (1, 2):
            field = Field(s)
            points = scattered(4, s)
            for many, point in enumerate(points, 1):
                field.put(point)
                for family in FAMILIES:
                    self.check_uneven(field, points[:many], family)
            field.take(1)
            for family in FAMILIES:
                self.check_uneven(field, points[:1] + points[2:], family)

    def check_uneven(self, field, points, family):
        number = unevenness(points, family)
        self.assertEqual(field.uneven(family), number)
        told = field.worst(family)
        self.assertIs(type(told), tuple)
        self.assertEqual(told[0], number)
        self.assertIn(told[1:], all_worst(points, family))

    def test_too_many_looks(self):
        field, points = Field(2), scattered(12, 2, bottom=101)
        for point in points:
            field.put(point)
        self.assertGreater(many_looks(points, "inner"), 3000)
        for family in ("inner", "round"):
            for asked in (field.uneven, field.worst):
                with self.assertRaises(TooMany) as caught:
                    asked(family)
                self.assertEqual(caught.exception.word, "looks")
        self.assertEqual(field.uneven("corner"), unevenness(points, "corner"))
        self.assertEqual(field.count_of((("to", (1, 1)), ("to", (1, 1)))), 12)

    def test_count_of_is_half_open(self):
        field = Field(1)
        field.put((HALF,))
        self.assertEqual(field.count_of((("to", HALF),)), 0)
        self.assertEqual(field.count_of((("from", HALF, (1, 1)),)), 1)
        self.assertEqual(field.count_of((("from", THIRD, HALF),)), 0)
        self.assertEqual(field.count_of((("round", HALF, (-1, 1)),)), 1)


class WatchTest(unittest.TestCase):
    def test_numbers_of_watches(self):
        field = Field(1)
        self.assertEqual([field.watch(box) for box in BOXES[1]], list(range(len(BOXES[1]))))
        # The same box watched twice has two numbers.
        self.assertEqual(field.watch(BOXES[1][0]), len(BOXES[1]))
        field.put((ZERO,))
        self.assertEqual((field.watched(0), field.watched(len(BOXES[1]))), (1, 1))
        self.assertEqual(field.changed(), [0, 2, 4, 5, len(BOXES[1])])

    def test_changed_behind_each_sort_of_deed(self):
        field = Field(1)
        low, high = field.watch((("to", HALF),)), field.watch((("from", HALF, (1, 1)),))
        self.assertEqual(field.changed(), [])
        field.put((ZERO,))
        self.assertEqual(field.changed(), [low])
        field.put((HALF,))
        self.assertEqual(field.changed(), [high])
        field.take(0)
        self.assertEqual(field.changed(), [low])
        field.undo()
        self.assertEqual(field.changed(), [low])
        field.undo()
        self.assertEqual(field.changed(), [high])
        field.undo()
        self.assertEqual((field.changed(), field.watched(low), field.watched(high)), ([low], 0, 0))

    def test_a_deed_that_turns_none(self):
        field = Field(1)
        field.watch((("to", HALF),))
        field.put((ZERO,))
        field.put(((3, 4),))
        self.assertEqual(field.changed(), [])
        field.undo()
        self.assertEqual(field.changed(), [])
        field.undo()
        self.assertEqual(field.changed(), [0])

    def test_watches_set_behind_the_last_deed(self):
        field = Field(1)
        field.put((ZERO,))
        self.assertEqual(field.changed(), [])
        self.assertEqual(field.watch((("to", HALF),)), 0)
        self.assertEqual((field.changed(), field.watched(0)), ([], 1))
        field.undo()
        # The undo is a deed of its own, behind which the watch was there.
        self.assertEqual((field.changed(), field.watched(0)), ([0], 0))
        field.watch((("to", HALF),))
        self.assertEqual(field.changed(), [0])

    def test_no_undo_takes_a_watch(self):
        field = Field(1)
        field.put((ZERO,))
        field.watch((("to", HALF),))
        field.put((ZERO,))
        field.watch((("to", THIRD),))
        field.undo()
        field.undo()
        self.assertEqual(word_of(field.undo), "undo")
        self.assertEqual([field.watched(k) for k in (0, 1)], [0, 0])
        self.assertEqual(field.watch((("to", (1, 1)),)), 2)
        field.put((ZERO,))
        self.assertEqual((field.changed(), [field.watched(k) for k in range(3)]), ([0, 1, 2], [1, 1, 1]))

    def test_asking_changes_nothing(self):
        field = Field(1)
        field.watch((("to", HALF),))
        field.put((ZERO,))
        field.count_of((("to", (1, 1)),)), field.uneven("corner"), field.worst("corner"), field.numbers(), field.points()
        field.watched(0)
        self.assertEqual((field.changed(), field.changed()), ([0], [0]))


class OwnTest(unittest.TestCase):
    def test_told_lists_may_be_changed(self):
        field = Field(1)
        field.watch((("to", HALF),))
        field.put((ZERO,))
        field.put((THIRD,))
        for asked, plainly in ((field.numbers, [0, 1]), (field.points, [(ZERO,), (THIRD,)]), (field.changed, [0])):
            told = asked()
            self.assertIs(type(told), list)
            self.assertEqual(told, plainly)
            told.append("changed")
            told[0] = None
            self.assertEqual(asked(), plainly)
            told.clear()
            self.assertEqual(asked(), plainly)

    def test_what_was_told_stays(self):
        field = Field(1)
        field.watch((("to", HALF),))
        field.put((ZERO,))
        told = (field.numbers(), field.points(), field.changed(), field.worst("corner"))
        kept = (list(told[0]), list(told[1]), list(told[2]), told[3])
        field.put(((3, 4),))
        field.take(0)
        field.undo()
        self.assertEqual(told, kept)

    def test_lists_that_are_handed_in_stay(self):
        field = Field(1)
        point = [[1, 2]]
        self.assertEqual(word_of(field.put, point), "point")
        self.assertEqual(word_of(field.put, ([1, 2],)), "point")
        self.assertEqual(word_of(field.take, point), "number")
        self.assertEqual(point, [[1, 2]])
        point[0] = (1, 2)
        self.assertEqual((field.points(), field.put(tuple(point))), ([], 0))
        point[0] = (1, 3)
        self.assertEqual(field.points(), [(HALF,)])


if __name__ == "__main__":
    unittest.main()
