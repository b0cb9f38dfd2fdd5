"""Texts read as fractions, points and boxes; no text but the one that writes the thing."""

from evenpoints.boxes import is_side
from evenpoints.errors import NoText
from evenpoints.fractions import is_fraction
from evenpoints.points import MOST_POINTS, is_number

MOST_FIGURES = 1000


def writes_figures(text):
    """Tell whether a text writes a whole number from 0 on, without a 0 ahead but 0 itself."""
    if not text.isascii() or not text.isdigit():
        return False
    return text[0] != "0" or text == "0"


def read_figures(text):
    """Read a whole number from 0 on, of at most a thousand figures; else tell None."""
    # The count of figures is looked at first: Python refuses to read very long ones.
    if len(text) > MOST_FIGURES or not writes_figures(text):
        return None
    return int(text)


def read_top(text):
    """Read a whole number, a - ahead of one below 0; else tell None."""
    if not text.startswith("-"):
        return read_figures(text)
    number = read_figures(text[1:])
    if number is None or number == 0:
        return None
    return -number


def read_fraction(text):
    """Read a fraction, or tell None of what writes none."""
    above, stroke, below = text.partition("/")
    top = read_top(above)
    if top is None:
        return None
    if stroke == "":
        return (top, 1)
    bottom = read_figures(below)
    # A bottom of 1 is not written.
    if bottom is None or bottom == 1 or not is_fraction((top, bottom)):
        return None
    return (top, bottom)


def read_number(text):
    """Read a fraction from 0 on and below 1; else tell None."""
    one = read_fraction(text)
    return one if is_number(one) else None


def read_side(text):
    """Read a SIDE; else tell None."""
    word, *ends = text.split(":")
    side = tuple([word] + [read_fraction(end) for end in ends])
    return side if is_side(side) else None


def all_read(s, things):
    """Tell things that were read as a tuple, where there are s of them, none None."""
    if None in things:
        raise NoText(things.index(None))
    if len(things) != s:
        raise NoText(min(len(things), s))
    return tuple(things)


def read_point(s, text):
    """Read a POINT of s sides."""
    return all_read(s, [read_number(piece) for piece in text.split(",")])


def read_box(s, text):
    """Read a BOX of s sides."""
    return all_read(s, [read_side(piece) for piece in text.split(",")])


def read_word(s, word, place):
    """Read a POINT of s sides; the place of a refusal is the word's."""
    try:
        return read_point(s, word)
    except NoText:
        raise NoText(place) from None


def read_points(s, text):
    """Read POINTS of s sides."""
    points = []
    for place, word in enumerate(text.split(" ")):
        if place == MOST_POINTS:
            raise NoText(place)
        points.append(read_word(s, word, place))
    return tuple(points)
