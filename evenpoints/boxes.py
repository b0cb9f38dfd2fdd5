"""Sides and boxes: what lies in them, how great they are, what they miss."""

from evenpoints.fractions import ONE, ZERO, fraction, greater, is_below, is_fraction, less, lesser, plus, product_of

NUMBERS_BY_WORD = {"to": 1, "from": 2, "round": 2}
WORDS_BY_FAMILY = {"corner": ("to",), "inner": ("from",), "round": ("from", "round")}


def is_end(thing):
    """Tell of any plain thing whether it is a fraction from -1 to 1."""
    return is_fraction(thing) and -thing[1] <= thing[0] <= thing[1]


def is_side(thing):
    """Tell of any plain thing whether it is a SIDE."""
    if not isinstance(thing, tuple) or len(thing) == 0 or not isinstance(thing[0], str):
        return False
    if NUMBERS_BY_WORD.get(thing[0]) != len(thing) - 1:
        return False
    return all([is_end(one) for one in thing[1:]])


def is_box(s, thing):
    """Tell of any plain thing whether it is a BOX of s sides."""
    if not isinstance(thing, tuple) or len(thing) != s:
        return False
    return all([is_side(side) for side in thing])


def is_of(family, box):
    """Tell whether a BOX is of a family."""
    words = WORDS_BY_FAMILY[family]
    return all([side[0] in words for side in box])


def is_corner(s, thing):
    """Tell of any plain thing whether it is a BOX of s sides of the family "corner"."""
    return is_box(s, thing) and is_of("corner", thing)


def side_size(side):
    """Tell the size of a SIDE; its numbers below 0 count as 0."""
    end = greater(side[-1], ZERO)
    if side[0] == "to":
        return end
    width = less(end, greater(side[1], ZERO))
    if side[0] == "from":
        return greater(width, ZERO)
    return lesser(plus(ONE, width), ONE)


def size_of(box):
    """Tell the size of a BOX: the product of its sides' sizes."""
    return product_of([side_size(side) for side in box])


def goes_ahead(one, other, may_meet):
    """Tell whether one is below other, or, where they may meet, not above it."""
    if may_meet:
        return not is_below(other, one)
    return is_below(one, other)


def lies(x, side, way):
    """Tell whether a number lies in a SIDE, "half", "shut" or "open"."""
    ahead = goes_ahead(x, side[-1], way == "shut")
    if side[0] == "to":
        return ahead
    behind = goes_ahead(side[1], x, way != "open")
    if side[0] == "from":
        return behind and ahead
    return behind or ahead


def lies_in(point, box, way):
    """Tell whether a point lies in a BOX, "half", "shut" or "open"."""
    return all([lies(x, side, way) for x, side in zip(point, box)])


def inside(points, box, way):
    """Tell how many points lie in a BOX, "half", "shut" or "open"."""
    return len([point for point in points if lies_in(point, box, way)])


def share_of(points, box, way):
    """Tell how many points lie in a BOX, over how many there are."""
    return fraction(inside(points, box, way), len(points))


def miss_of(points, box):
    """Tell the miss of a BOX: the share that lies in it, less its size."""
    return less(share_of(points, box, "half"), size_of(box))


def over_of(points, box):
    """Tell the over of a BOX: the share that lies in it shut, less its size."""
    return less(share_of(points, box, "shut"), size_of(box))


def lack_of(points, box):
    """Tell the lack of a BOX: its size less the share that lies in it open."""
    return less(size_of(box), share_of(points, box, "open"))
