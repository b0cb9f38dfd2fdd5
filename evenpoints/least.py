"""Least uneven sets of places of a grid, with a paper that none is less uneven."""

from evenpoints.choices import choices, sets_of, ways_to_take
from evenpoints.errors import TooMany
from evenpoints.fractions import ONE, fraction, is_below, less, plus, rounded_up, times
from evenpoints.looks import counted_looks

MOST_SETS = 1000


def places_of(grid):
    """Tell the places of a grid, by the first side's number, then by the second's."""
    return tuple(choices(grid))


def leaves_of(places):
    """Tell rows (leaf, places within, size): a set misses there by its share within, less the size.

    The over of a box is one of what lies shut in it. Its lack is one of what
    does not lie open in it, whose size is what the box's lacks of 1. The looks
    of all places have those of each set among them.
    """
    rows = []
    for box, shut, free, size in counted_looks(places, "corner"):
        outside = [place for place in range(len(places)) if place not in free]
        rows.append((("over", box), shut, size))
        rows.append((("lack", box), outside, less(ONE, size)))
    return rows


def many_within(some, within):
    """Tell how many numbers of places are among those within."""
    return len([place for place in some if place in within])


def greatest_miss(rows, chosen):
    """Tell the unevenness of a set: the greatest of its misses."""
    greatest = None
    for leaf, within, size in rows:
        miss = less(fraction(many_within(chosen, within), len(chosen)), size)
        if greatest is None or is_below(greatest, miss):
            greatest = miss
    return greatest


def first_least(rows, sets):
    """Tell (number, set): the first set of the least unevenness."""
    best = None
    for chosen in sets:
        number = greatest_miss(rows, chosen)
        if best is None or is_below(number, best[0]):
            best = (number, chosen)
    return best


def needs_of(rows, many, number):
    """Tell rows (leaf, places within, need): how many of so many places within make a miss no less than number."""
    needs = []
    for leaf, within, size in rows:
        top, bottom = times(plus(number, size), (many, 1))
        needs.append((leaf, within, rounded_up(top, bottom)))
    return needs


def leaf_for(needs, many, taken, free):
    """Tell a leaf with a box that holds where these places are taken and free, or None."""
    for leaf, within, need in needs:
        taken_within = many_within(taken, within)
        outside = len(taken) - taken_within + len(free) - many_within(free, within)
        if max(taken_within, many - outside) >= need:
            return leaf
    return None


def least_paper(needs, many, taken, free):
    """Tell a node for these taken and free places.

    Where just so many are taken, or are taken and free together, they are the
    set, and the box of its unevenness holds. So no node has more or fewer, and
    there is always a free place to ask of.
    """
    leaf = leaf_for(needs, many, taken, free)
    if leaf is not None:
        return leaf
    rest = free[1:]
    return (
        "take", free[0], least_paper(needs, many, taken + free[:1], rest), least_paper(needs, many, taken, rest),
    )


def least_set(grid, many):
    """Tell (number, set, paper): the least unevenness of so many places, such a set, a least paper."""
    places = places_of(grid)
    if ways_to_take(many, len(places)) > MOST_SETS:
        raise TooMany("sets")
    numbers = list(range(len(places)))
    rows = leaves_of(places)
    number, chosen = first_least(rows, sets_of(numbers, many))
    return (number, chosen, least_paper(needs_of(rows, many, number), many, [], numbers))
