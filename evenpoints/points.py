"""Points: tuples of fractions from 0 on and below 1."""

from evenpoints.fractions import in_size, is_fraction

MOST_POINTS = 40


def is_number(thing):
    """Tell of any plain thing whether it is a fraction from 0 on and below 1."""
    return is_fraction(thing) and 0 <= thing[0] < thing[1]


def is_point(s, thing):
    """Tell of any plain thing whether it is a POINT of s sides."""
    if not isinstance(thing, tuple) or len(thing) != s:
        return False
    return all([is_number(x) for x in thing])


def is_points(s, thing):
    """Tell of any plain thing whether it is POINTS of s sides."""
    if not isinstance(thing, tuple) or not 1 <= len(thing) <= MOST_POINTS:
        return False
    return all([is_point(s, point) for point in thing])


def sides_of(points):
    """Tell how many sides points have."""
    return len(points[0])


def numbers_at(points, side):
    """Tell the numbers that stand at one side of points, in size."""
    return in_size([point[side] for point in points])
