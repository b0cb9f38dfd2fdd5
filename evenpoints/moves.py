"""Points moved: shifted, mirrored, exchanged, as a shadow, beside one another."""

from evenpoints.errors import TooMany
from evenpoints.fractions import ONE, less, plus, wrapped
from evenpoints.points import MOST_POINTS


def shifted(points, by):
    """Tell points with a fraction added at each side, wrapped."""
    return tuple([tuple([wrapped(plus(x, step)) for x, step in zip(point, by)]) for point in points])


def mirrored_number(x):
    """Tell 1 less x; wrapped, so that 0 stays 0."""
    return wrapped(less(ONE, x))


def mirrored(points, sides):
    """Tell points mirrored at some sides."""
    return tuple([
        tuple([mirrored_number(x) if side in sides else x for side, x in enumerate(point)])
        for point in points
    ])


def picked(points, sides):
    """Tell points with what stood at the told sides, in their order."""
    return tuple([tuple([point[side] for side in sides]) for point in points])


def exchanged(points, order):
    """Tell points with, at side k, what stood at side order[k]."""
    return picked(points, order)


def shadow(points, sides):
    """Tell some sides of points alone."""
    return picked(points, sides)


def beside(one, other):
    """Tell the one's points, then the other's."""
    if len(one) + len(other) > MOST_POINTS:
        raise TooMany("points")
    return one + other
