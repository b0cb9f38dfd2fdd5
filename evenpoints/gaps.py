"""Neighbours and gaps of points by steps of a fraction, told without a walk over all points."""

from evenpoints.fractions import in_size, plus, rounded_up
from evenpoints.gapchecker import gap_above, gap_below


def neighbours(step, many):
    """Tell (u, v): the number of the point next above 0, and that of the greatest point.

    The point of u + v is the first one that comes nearer to the edge than both:
    the greater one of both gaps is lessened by the other. As often as that goes
    on at one side, which a quotient tells, it is done at once.
    """
    u = v = 1
    above, below = step[0], step[1] - step[0]
    # All points there are stand where as many as the lower number do: then none comes nearer.
    while u + v < min(many, step[1]):
        if above > below:
            often = min((above - 1) // below, rounded_up(many - u - v, v))
            u += often * v
            above -= often * below
        else:
            often = min((below - 1) // above, rounded_up(many - u - v, u))
            v += often * u
            below -= often * above
    return (u, v)


def next_of(step, many, n):
    """Tell the number of the point next behind that of n, round the edge."""
    u, v = neighbours(step, many)
    if n + u < many:
        return n + u
    return n - v if n >= v else n + u - v


def gaps(step, many):
    """Tell (length, how many) of the gaps between next points, lengths in size."""
    u, v = neighbours(step, many)
    rise, fall = gap_above(step, u), gap_below(step, v)
    counts = {}
    for length, often in ((rise, many - u), (fall, many - v), (plus(rise, fall), u + v - many)):
        if often > 0:
            counts[length] = counts.get(length, 0) + often
    return tuple([(length, counts[length]) for length in in_size(list(counts))])
