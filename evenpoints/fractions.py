"""Exact fractions: tuples (n, d) in lowest terms, d from 1 on."""

from evenpoints.errors import Nought

ZERO = (0, 1)
ONE = (1, 1)


def is_whole(thing):
    """Tell whether a thing is a whole number; True and False are none."""
    return isinstance(thing, int) and not isinstance(thing, bool)


def is_place(thing, many):
    """Tell of any plain thing whether it is a whole number from 0 to below many."""
    return is_whole(thing) and 0 <= thing < many


def common_divisor(one, other):
    """Tell the greatest number that divides both; 0 where both are 0."""
    while other != 0:
        one, other = other, one % other
    return abs(one)


def is_fraction(thing):
    """Tell of any plain thing whether it is a FRACTION."""
    if not isinstance(thing, tuple) or len(thing) != 2:
        return False
    top, bottom = thing
    if not is_whole(top) or not is_whole(bottom) or bottom < 1:
        return False
    return common_divisor(top, bottom) == 1


def fraction(top, bottom):
    """Tell the fraction that top divided by bottom is."""
    if bottom == 0:
        raise Nought("bottom")
    divisor = common_divisor(top, bottom)
    if bottom < 0:
        divisor = -divisor
    return (top // divisor, bottom // divisor)


def plus(one, other):
    """Tell the sum of two fractions."""
    return fraction(one[0] * other[1] + other[0] * one[1], one[1] * other[1])


def less(one, other):
    """Tell the first fraction less the second."""
    return fraction(one[0] * other[1] - other[0] * one[1], one[1] * other[1])


def times(one, other):
    """Tell the product of two fractions."""
    return fraction(one[0] * other[0], one[1] * other[1])


def sum_of(some):
    """Tell the sum of a list of fractions, perhaps of none."""
    # One bottom for all, so that a great sum is brought to lowest terms only once.
    bottom = 1
    for one in some:
        bottom *= one[1] // common_divisor(bottom, one[1])
    return fraction(sum([one[0] * (bottom // one[1]) for one in some]), bottom)


def product_of(some):
    """Tell the product of a list of fractions, perhaps of none."""
    product = ONE
    for one in some:
        product = times(product, one)
    return product


def over(one, other):
    """Tell the first fraction divided by the second."""
    if other[0] == 0:
        raise Nought("quotient")
    return fraction(one[0] * other[1], one[1] * other[0])


def is_below(one, other):
    """Tell whether the first fraction is below the second."""
    return one[0] * other[1] < other[0] * one[1]


def lesser(one, other):
    """Tell the lesser one of two fractions."""
    return one if is_below(one, other) else other


def greater(one, other):
    """Tell the greater one of two fractions."""
    return other if is_below(one, other) else one


def rounded_up(top, bottom):
    """Tell a whole number divided by another one above 0, rounded up."""
    return -(-top // bottom)


def floor_of(one):
    """Tell the greatest whole number that is no more than a fraction."""
    return one[0] // one[1]


def wrapped(one):
    """Tell a fraction less its floor."""
    return (one[0] % one[1], one[1])


def in_size(some):
    """Tell fractions as a tuple, each once, from the least to the greatest."""
    bottom = max([one[1] for one in some], default=1)
    # Unlike fractions differ by 1 over bottom ** 2 at least, so that many times
    # each, rounded down, keeps them apart and in their order.
    scale = bottom * bottom
    by_size = {one[0] * scale // one[1]: one for one in some}
    return tuple([by_size[size] for size in sorted(by_size)])
