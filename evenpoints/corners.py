"""The rest of a side, and boxes as sums of corner boxes."""

from evenpoints.choices import choices
from evenpoints.fractions import ONE, lesser


def rest_of(side):
    """Tell the side in which just those numbers lie that don't lie in this one."""
    if side[0] == "to":
        return ("from", side[1], ONE)
    if side[0] == "from":
        return ("round", side[2], side[1])
    return ("from", side[2], side[1])


def signed_ends(side):
    """Tell (k, t) such that a side is the sum of all k times ("to", t).

    The lesser one of both numbers makes "from" void where they stand in the
    wrong order, and "round" whole where its stretches meet.
    """
    if side[0] == "to":
        return [(1, side[1])]
    low = lesser(side[1], side[2])
    if side[0] == "from":
        return [(1, side[2]), (-1, low)]
    return [(1, ONE), (-1, side[1]), (1, low)]


def signed_corner(chosen):
    """Tell (k, corner) of one signed end for each side."""
    sign = 1
    for k, end in chosen:
        sign *= k
    return (sign, tuple([("to", end) for k, end in chosen]))


def corners_of(box):
    """Tell (k, corner) such that a box is the sum of all k times corner."""
    return tuple([signed_corner(chosen) for chosen in choices([signed_ends(side) for side in box])])
