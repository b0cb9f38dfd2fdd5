"""The simplest fraction between two."""

from evenpoints.errors import NoRoom
from evenpoints.fractions import is_below


def simplest(one, other):
    """Tell the fraction above one and below other with the least second number."""
    if not is_below(one, other):
        raise NoRoom("between")
    if one[0] < 0 < other[0]:
        return (0, 1)
    if one[0] < 0:
        top, bottom = simplest_above_nought((-other[0], other[1]), (-one[0], one[1]))
        return (-top, bottom)
    return simplest_above_nought(one, other)


def simplest_above_nought(one, other):
    """Tell the simplest fraction between two of which none is below 0.

    While no whole number lies between, what is whole is taken off and both are
    turned upside down: that keeps the simplest one the simplest. The greater
    one may become endless then, which is written with a bottom of 0.
    """
    low_top, low_bottom = one
    high_top, high_bottom = other
    taken = []
    whole = low_top // low_bottom
    while (whole + 1) * high_bottom >= high_top:
        taken.append(whole)
        low_top, low_bottom, high_top, high_bottom = (
            high_bottom,
            high_top - whole * high_bottom,
            low_bottom,
            low_top - whole * low_bottom,
        )
        whole = low_top // low_bottom
    top, bottom = whole + 1, 1
    for former in reversed(taken):
        top, bottom = former * top + bottom, top
    return (top, bottom)
