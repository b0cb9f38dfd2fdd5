"""The checker of neighbours."""

from evenpoints.errors import NoPaper
from evenpoints.fractions import ONE, ZERO, is_place, less, plus, times
from evenpoints.steps import step_number


def is_pair(many, thing):
    """Tell of any plain thing whether it is two whole numbers from 1 to below many."""
    if not isinstance(thing, tuple) or len(thing) != 2:
        return False
    return all([is_place(n, many) and n > 0 for n in thing])


def gap_above(step, u):
    """Tell how far above 0 the point of u is."""
    return step_number(ZERO, step, u)


def gap_below(step, v):
    """Tell how far below 1 the point of v is."""
    return less(ONE, step_number(ZERO, step, v))


def lets_neighbours(step, many, thing):
    """Let any plain thing by that is the neighbours of so many points by a step."""
    if not is_pair(many, thing):
        raise NoPaper((), "shape")
    u, v = thing
    if u + v < many:
        raise NoPaper((), "few")
    if plus(times((v, 1), gap_above(step, u)), times((u, 1), gap_below(step, v))) != ONE:
        raise NoPaper((), "round")
    return True
