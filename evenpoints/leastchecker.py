"""The checker of least papers: it counts what is taken and what is free, and seeks nothing."""

from evenpoints.boxes import inside, is_corner, size_of
from evenpoints.choices import choices
from evenpoints.errors import NoPaper
from evenpoints.fractions import fraction, is_below, is_whole, less

LENGTHS = {"take": 4, "many": 1, "few": 1, "over": 2, "lack": 2}


def is_form(thing):
    """Tell of any plain thing whether it is a node by its word and how many things it has."""
    if not isinstance(thing, tuple) or len(thing) == 0 or not isinstance(thing[0], str):
        return False
    return LENGTHS.get(thing[0]) == len(thing)


def least_inside(many, taken, free, box):
    """Tell how many of so many places lie shut in a box, at least, whichever free ones are taken."""
    known = taken + free
    outside = len(known) - inside(known, box, "shut")
    return max(inside(taken, box, "shut"), many - outside)


def most_inside(many, taken, free, box):
    """Tell how many of so many places lie open in a box, at most, whichever free ones are taken."""
    outside = len(taken) - inside(taken, box, "open")
    return min(inside(taken + free, box, "open"), many - outside)


def miss_shown(many, taken, free, leaf):
    """Tell the over or lack that a leaf's box has at least, whichever free places are taken."""
    word, box = leaf
    if word == "over":
        return less(fraction(least_inside(many, taken, free, box), many), size_of(box))
    return less(size_of(box), fraction(most_inside(many, taken, free, box), many))


def leaf_holds(many, number, taken, free, leaf):
    """Tell whether what a leaf says is so."""
    if leaf[0] == "many":
        return len(taken) > many
    if leaf[0] == "few":
        return len(taken) + len(free) < many
    return not is_below(miss_shown(many, taken, free, leaf), number)


def fault_of(s, many, number, taken, free, thing):
    """Tell the word for what is amiss with a node, whatever its P and Q are, or None."""
    if not is_form(thing):
        return "shape"
    if thing[0] == "take":
        return None if is_whole(thing[1]) and thing[1] in free else "place"
    if len(thing) == 2 and not is_corner(s, thing[1]):
        return "box"
    return None if leaf_holds(many, number, taken, list(free.values()), thing) else thing[0]


def walk_down(s, many, number, taken, free, path, thing):
    """Refuse the first node amiss, a node ahead of what is within it, P ahead of Q."""
    word = fault_of(s, many, number, taken, free, thing)
    if word is not None:
        raise NoPaper(path, word)
    if thing[0] == "take":
        g = thing[1]
        rest = {place: free[place] for place in free if place != g}
        walk_down(s, many, number, taken + [free[g]], rest, path + (0,), thing[2])
        walk_down(s, many, number, taken, rest, path + (1,), thing[3])


def lets_least(grid, many, number, thing):
    """Let any plain thing by that shows that no so many places of a grid are less uneven than number."""
    places = choices(grid)
    walk_down(len(grid), many, number, [], dict(enumerate(places)), (), thing)
    return True
