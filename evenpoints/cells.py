"""Cells: all boxes whose numbers lie in ranges, and what they tell of points.

A cell is a tuple with (word, ranges) for each side. While a paper is walked, a
word that is not chosen yet is None.
"""

from evenpoints.boxes import inside, size_of

WIDEST = ((-1, 1), (1, 1))
FIRST_WORDS = {"corner": "to", "inner": "from", "round": None}


def least_side(word, ranges):
    """Tell the side that lies, shut, within all sides of the ranges."""
    if word == "to":
        return (word, ranges[0][0])
    return (word, ranges[0][1], ranges[1][0])


def most_side(word, ranges):
    """Tell the side that has, open, all numbers of all sides of the ranges."""
    if word == "to":
        return (word, ranges[0][1])
    return (word, ranges[0][0], ranges[1][1])


def cell_told(points, cell):
    """Tell (sure, perhaps, least, most) of points by a cell."""
    least_box = tuple([least_side(word, ranges) for word, ranges in cell])
    most_box = tuple([most_side(word, ranges) for word, ranges in cell])
    # What lies surely lies perhaps, too, so that the others are just the difference.
    sure = inside(points, least_box, "shut")
    perhaps = inside(points, most_box, "open") - sure
    return (sure, perhaps, size_of(least_box), size_of(most_box))


def first_cell(s, family):
    """Tell the cell of a paper's root: all boxes of the family."""
    ranges = (WIDEST,) if family == "corner" else (WIDEST, WIDEST)
    return ((FIRST_WORDS[family], ranges),) * s


def exchanged_side(cell, side, other):
    """Tell a cell with another (word, ranges) at a side."""
    return cell[:side] + (other,) + cell[side + 1:]


def worded(cell, side, word):
    """Tell a cell with the word of a side chosen."""
    return exchanged_side(cell, side, (word, cell[side][1]))


def ranged(cell, side, which, new):
    """Tell a cell with a new range for the first or second number of a side."""
    word, ranges = cell[side]
    return exchanged_side(cell, side, (word, ranges[:which] + (new,) + ranges[which + 1:]))


def cells_below(cell, node):
    """Tell the cells of P and of Q, of a node that is right for its cell."""
    if node[0] == "ways":
        return (worded(cell, node[1], "from"), worded(cell, node[1], "round"))
    side, which, at = node[1:4]
    low, high = cell[side][1][which]
    return (ranged(cell, side, which, (low, at)), ranged(cell, side, which, (at, high)))
