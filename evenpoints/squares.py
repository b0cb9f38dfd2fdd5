"""The square miss of points: the mean of a corner box's miss times itself."""

from evenpoints.fractions import ONE, fraction, greater, less, plus, product_of, sum_of, times
from evenpoints.points import sides_of


def room_above(point):
    """Tell the product of 1 less each number times itself."""
    return product_of([less(ONE, times(x, x)) for x in point])


def room_above_both(one, other):
    """Tell the product of 1 less the greater one of both numbers at each side."""
    return product_of([less(ONE, greater(x, y)) for x, y in zip(one, other)])


def square_miss(points):
    """Tell the mean, over all corner boxes, of the miss times itself."""
    many, s = len(points), sides_of(points)
    wholes = product_of([(1, 3)] * s)
    halves = times(product_of([(1, 2)] * s), fraction(2, many))
    singles = sum_of([room_above(point) for point in points])
    pairs = sum_of([room_above_both(one, other) for one in points for other in points])
    return plus(less(wholes, times(halves, singles)), times(fraction(1, many * many), pairs))


def square_without(points):
    """Tell, for each point in order, the square miss of the points without it."""
    return tuple([square_miss(points[:place] + points[place + 1:]) for place in range(len(points))])
