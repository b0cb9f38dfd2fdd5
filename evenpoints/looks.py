"""The looks of points, and how uneven points are by them."""

from evenpoints.boxes import lies, side_size
from evenpoints.choices import choices
from evenpoints.errors import TooMany
from evenpoints.fractions import ONE, fraction, is_below, less, times
from evenpoints.points import numbers_at, sides_of

MOST_LOOKS = 3000
BELOW_ALL = (-1, 1)


def side_looks(numbers, family):
    """Tell the looks at a side with these numbers, in size."""
    ends = list(numbers) + [ONE]
    if family == "corner":
        return [("to", end) for end in ends]
    begins = [BELOW_ALL] + list(numbers)
    inner = [("from", a, b) for a in begins for b in ends if not is_below(b, a)]
    if family == "inner":
        return inner
    return inner + [("round", a, b) for a in ends for b in begins if not is_below(a, b)]


def many_side_looks(many, family):
    """Tell how many looks there are at a side with so many numbers."""
    if family == "corner":
        return many + 1
    inner = (many + 1) * (many + 2) // 2 + many
    return inner if family == "inner" else 2 * inner


def many_looks(points, family):
    """Tell how many looks points have."""
    many = 1
    for side in range(sides_of(points)):
        many *= many_side_looks(len(numbers_at(points, side)), family)
    return many


def looks_by_side(points, family):
    """Tell a list of the looks at each side, of points that do not have too many."""
    if many_looks(points, family) > MOST_LOOKS:
        raise TooMany("looks")
    return [side_looks(numbers_at(points, side), family) for side in range(sides_of(points))]


def looks(points, family):
    """Tell all boxes with a look at each side."""
    return choices(looks_by_side(points, family))


def marked(numbers, look):
    """Tell (look, marks, marks, size): for each number whether it lies in it shut, then open."""
    shut = [lies(x, look, "shut") for x in numbers]
    free = [lies(x, look, "open") for x in numbers]
    return (look, shut, free, side_size(look))


def widened(row, mark):
    """Tell a row of counted_looks with one more side, by what marked tells of it."""
    box, shut, free, size = row
    look, shut_there, free_there, size_there = mark
    return (
        box + (look,),
        [place for place in shut if shut_there[place]],
        [place for place in free if free_there[place]],
        times(size, size_there),
    )


def counted_looks(points, family):
    """Tell a row (box, places shut in it, places open in it, size) of each look.

    The places are carried from side to side, so that a point which lies outside
    at one side is not looked at again at the next ones.
    """
    places = list(range(len(points)))
    rows = [((), places, places, ONE)]
    for side, side_rows in enumerate(looks_by_side(points, family)):
        numbers = [point[side] for point in points]
        marks = [marked(numbers, look) for look in side_rows]
        rows = [widened(row, mark) for row in rows for mark in marks]
    return rows


def misses(points, family):
    """Tell (number, way, box) of each look, as the looks go, "over" ahead of "lack"."""
    many = len(points)
    told = []
    for box, shut, free, size in counted_looks(points, family):
        told.append((less(fraction(len(shut), many), size), "over", box))
        told.append((less(size, fraction(len(free), many)), "lack", box))
    return told


def first_greatest(rows):
    """Tell the first one of the rows with the greatest number."""
    best = rows[0]
    for row in rows:
        if is_below(best[0], row[0]):
            best = row
    return best


def worst(points, family):
    """Tell (number, way, box): the unevenness, and a box whose over or lack it is."""
    return first_greatest(misses(points, family))


def unevenness(points, family):
    """Tell the least fraction that no miss of a box of the family passes."""
    return worst(points, family)[0]


def all_worst(points, family):
    """Tell (way, box) of all looks whose over or lack is the unevenness."""
    rows = misses(points, family)
    greatest = first_greatest(rows)[0]
    return [(way, box) for number, way, box in rows if number == greatest]
