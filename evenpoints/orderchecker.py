"""The checker of order papers: each order comes to a beginning whose box shows its heave."""

from evenpoints.boxes import is_corner, lack_of, over_of
from evenpoints.errors import NoPaper
from evenpoints.fractions import is_below, is_place, times
from evenpoints.points import sides_of


def is_shown_row(thing):
    """Tell of any plain thing whether it is a tuple of two tuples."""
    if not isinstance(thing, tuple) or len(thing) != 2:
        return False
    return isinstance(thing[0], tuple) and isinstance(thing[1], tuple)


def is_set(many, thing):
    """Tell of any tuple whether it is rising, of places of so many points."""
    if not all([is_place(place, many) for place in thing]):
        return False
    return all([one < other for one, other in zip(thing, thing[1:])])


def is_step(s, thing):
    """Tell of any plain thing whether it is (), ("over", box) or ("lack", box)."""
    if not isinstance(thing, tuple) or len(thing) not in (0, 2):
        return False
    return len(thing) == 0 or (thing[0] in ("over", "lack") and is_corner(s, thing[1]))


def places_left(many, chosen):
    """Tell a list of the places that aren't in a set, rising."""
    return [place for place in range(many) if place not in chosen]


def with_more(chosen, place):
    """Tell a set with a place more."""
    return tuple(sorted(chosen + (place,)))


def times_many(number, many):
    """Tell a fraction, so many times."""
    return times(number, (many, 1))


def step_holds(points, number, chosen, step):
    """Tell whether the over or lack of a step's box by the points of a set, times how many these are, is so great."""
    word, box = step
    some = [points[place] for place in chosen]
    miss = over_of(some, box) if word == "over" else lack_of(some, box)
    return not is_below(times_many(miss, len(some)), number)


def sets_told(many, thing):
    """Tell a dict of the sets of all rows; refuse the first row that is none."""
    sets = {}
    for k, row in enumerate(thing):
        if not is_shown_row(row):
            raise NoPaper((k,), "shape")
        chosen = row[0]
        if not is_set(many, chosen) or len(chosen) == many or chosen in sets:
            raise NoPaper((k,), "set")
        sets[chosen] = True
    return sets


def step_fault(points, number, sets, chosen, step):
    """Tell the word for what is amiss with a step to a set, or None."""
    if not is_step(sides_of(points), step):
        return "step"
    if step == ():
        return None if chosen in sets else "row"
    return None if step_holds(points, number, chosen, step) else step[0]


def check_steps(points, number, sets, k, row):
    """Refuse the first step of a row that is amiss."""
    chosen, steps = row
    left = places_left(len(points), chosen)
    if len(steps) != len(left):
        raise NoPaper((k,), "steps")
    for j, (place, step) in enumerate(zip(left, steps)):
        word = step_fault(points, number, sets, with_more(chosen, place), step)
        if word is not None:
            raise NoPaper((k, j), word)


def lets_order(points, number, thing):
    """Let any plain thing by that shows that no order of points has a heave below the number."""
    if not isinstance(thing, tuple):
        raise NoPaper((), "shape")
    sets = sets_told(len(points), thing)
    if () not in sets:
        raise NoPaper((), "begin")
    for k, row in enumerate(thing):
        check_steps(points, number, sets, k, row)
    return True
