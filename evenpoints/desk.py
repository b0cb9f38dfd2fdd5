"""A desk: rows of text that ask a field, and texts that answer them."""

from evenpoints.boxes import WORDS_BY_FAMILY
from evenpoints.errors import NoRow, NoText
from evenpoints.field import Field
from evenpoints.parsing import MOST_FIGURES, read_box, read_point, writes_figures
from evenpoints.texts import box_text, fraction_text


def point_told(field, word):
    """Read a POINT of the field's sides; else tell None."""
    try:
        return read_point(field.sides, word)
    except NoText:
        return None


def box_told(field, word):
    """Read a BOX of the field's sides; else tell None."""
    try:
        return read_box(field.sides, word)
    except NoText:
        return None


def family_told(field, word):
    """Read a family; else tell None."""
    return word if word in WORDS_BY_FAMILY else None


def number_told(field, word):
    """Read a number that perhaps stands in the field; else tell None."""
    if not writes_figures(word):
        return None
    # No field has numbers so long; the first figures, which Python can read, write one that it hasn't, too.
    return int(word[:MOST_FIGURES])


def watch_told(field, word):
    """Read the number of one of the field's watches; else tell None."""
    number = number_told(field, word)
    return number if field.is_watch(number) else None


def listed(numbers):
    """Write numbers, a blank between, or - where there are none."""
    return " ".join([str(number) for number in numbers]) if numbers else "-"


def put_answer(field, point):
    """Put a point and answer with its number."""
    return str(field.put(point))


def take_answer(field, number):
    """Take the point of a number."""
    field.take(number)
    return "ok"


def undo_answer(field):
    """Undo the last deed."""
    field.undo()
    return "ok"


def numbers_answer(field):
    """Answer with the numbers that stand."""
    return listed(field.numbers())


def count_answer(field, box):
    """Answer how many points lie in a box."""
    return str(field.count_of(box))


def uneven_answer(field, family):
    """Answer with the unevenness by a family."""
    return fraction_text(field.uneven(family))


def worst_answer(field, family):
    """Answer with the unevenness, the way and the box that has it."""
    number, way, box = field.worst(family)
    return f"{fraction_text(number)} {way} {box_text(box)}"


def watch_answer(field, box):
    """Watch a box and answer with the watch's number."""
    return str(field.watch(box))


def watched_answer(field, number):
    """Answer how many points lie in a watch's box."""
    return str(field.watched(number))


def changed_answer(field):
    """Answer with the changed watches."""
    return listed(field.changed())


SHORT_ANSWERS = {"undo": undo_answer, "numbers": numbers_answer, "changed": changed_answer}
READERS = {
    "put": point_told, "take": number_told, "count": box_told, "uneven": family_told, "worst": family_told,
    "watch": box_told, "watched": watch_told,
}
ANSWERS = {
    "put": put_answer, "take": take_answer, "count": count_answer, "uneven": uneven_answer, "worst": worst_answer,
    "watch": watch_answer, "watched": watched_answer,
}


class Desk:
    """A field of s sides that is asked by rows of text."""

    def __init__(self, s):
        self.field = Field(s)

    def say(self, row):
        """Answer a row, or refuse it with NoRow ahead of all else where it is none."""
        word, *rest = row.split(" ")
        if len(rest) == 0 and word in SHORT_ANSWERS:
            short_answer = SHORT_ANSWERS[word]
            return short_answer(self.field)
        if len(rest) == 1 and word in READERS:
            reader = READERS[word]
            thing = reader(self.field, rest[0])
            if thing is not None:
                answer = ANSWERS[word]
                return answer(self.field, thing)
        raise NoRow(row)
