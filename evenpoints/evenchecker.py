"""The checker of even papers: it counts and multiplies, and seeks nothing."""

from evenpoints.cells import cell_told, cells_below, first_cell
from evenpoints.errors import NoPaper
from evenpoints.fractions import fraction, is_below, is_fraction, is_place, less
from evenpoints.points import sides_of

DEEPEST = 36


def is_node(s, family, thing):
    """Tell of any plain thing whether it is a node by kind, whatever its P and Q are."""
    if not isinstance(thing, tuple):
        return False
    if len(thing) == 6 and thing[0] == "cut":
        numbers = 1 if family == "corner" else 2
        return is_place(thing[1], s) and is_place(thing[2], numbers) and is_fraction(thing[3])
    if len(thing) == 4 and thing[0] == "ways":
        return is_place(thing[1], s)
    return len(thing) == 0


def is_within(at, limits):
    """Tell whether a fraction lies within a range, at neither of its ends."""
    return is_below(limits[0], at) and is_below(at, limits[1])


def leaf_fault(points, number, cell):
    """Tell the word for what is amiss with a leaf, or None."""
    if None in [word for word, ranges in cell]:
        return "word"
    sure, perhaps, least, most = cell_told(points, cell)
    many = len(points)
    if is_below(number, less(fraction(sure + perhaps, many), least)):
        return "over"
    if is_below(number, less(most, fraction(sure, many))):
        return "lack"
    return None


def node_fault(points, number, cell, node):
    """Tell the word for what is amiss with a node that is one by kind, or None."""
    if node == ():
        return leaf_fault(points, number, cell)
    word, ranges = cell[node[1]]
    if node[0] == "ways":
        return None if word is None else "ways"
    return None if is_within(node[3], ranges[node[2]]) else "cut"


def walk(points, family, number, cell, path, thing):
    """Refuse the first node amiss, this one ahead of all in its P, these ahead of all in its Q."""
    if len(path) > DEEPEST:
        raise NoPaper(path, "deep")
    if not is_node(len(cell), family, thing):
        raise NoPaper(path, "shape")
    word = node_fault(points, number, cell, thing)
    if word is not None:
        raise NoPaper(path, word)
    if thing != ():
        for way, below in enumerate(cells_below(cell, thing)):
            walk(points, family, number, below, path + (way,), thing[way - 2])


def lets_even(points, family, number, thing):
    """Let any plain thing by that shows that no box of the family misses by more than the number."""
    walk(points, family, number, first_cell(sides_of(points), family), (), thing)
    return True
