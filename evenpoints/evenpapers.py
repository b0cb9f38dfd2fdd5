"""Even papers made, and made of others."""

from evenpoints.cells import cells_below, first_cell
from evenpoints.evenchecker import is_within, leaf_fault
from evenpoints.fractions import is_below
from evenpoints.looks import unevenness
from evenpoints.points import numbers_at, sides_of


def even_paper(points, family, number):
    """Tell a paper that no box of the family misses by more than the number, or None."""
    if is_below(number, unevenness(points, family)):
        return None
    s = sides_of(points)
    numbers = [numbers_at(points, side) for side in range(s)]
    return grown(points, numbers, number, first_cell(s, family))


def grown(points, numbers, number, cell):
    """Tell a paper for the boxes of a cell."""
    fault = leaf_fault(points, number, cell)
    if fault is None:
        return ()
    head = next_way(cell) if fault == "word" else next_cut(numbers, cell)
    # The head is as good as the node: where P and Q go is not looked at here.
    return head + tuple([grown(points, numbers, number, below) for below in cells_below(cell, head)])


def next_way(cell):
    """Tell ("ways", side) of the first side whose word is not chosen."""
    return ("ways", [word for word, ranges in cell].index(None))


def next_cut(numbers, cell):
    """Tell ("cut", side, which, at), at the middle of the most numbers that a range parts.

    Where no number is left within any range, the cell tells the over of one
    look and the lack of another, so that no cut is asked for there.
    """
    best = ()
    most = 0
    for side, (word, ranges) in enumerate(cell):
        for which, limits in enumerate(ranges):
            between = [x for x in numbers[side] if is_within(x, limits)]
            if len(between) > most:
                most = len(between)
                best = ("cut", side, which, between[most // 2])
    return best


def even_exchanged(paper, order):
    """Tell the paper for points with, at side k, what stood at side order[k]."""
    if paper == ():
        return ()
    head = (paper[0], order.index(paper[1])) + paper[2:-2]
    return head + tuple([even_exchanged(part, order) for part in paper[-2:]])


def way_to_whole(family, node):
    """Tell the way, 0 or 1, to the boxes whose side at this node has all numbers.

    Such a side goes to 1, by "corner" with its first number; else it begins
    below all numbers, too. Of the words "from" does, as "round" would.
    """
    if node[0] == "ways":
        return 0
    return 1 if family == "corner" else node[2]


def even_shadow(family, paper, side):
    """Tell the paper for points with a side left out, by the boxes that are whole at that side."""
    if paper == ():
        return ()
    if paper[1] == side:
        return even_shadow(family, paper[way_to_whole(family, paper) - 2], side)
    left = paper[1] - 1 if paper[1] > side else paper[1]
    return (paper[0], left) + paper[2:-2] + tuple([even_shadow(family, part, side) for part in paper[-2:]])


def even_inner(paper):
    """Tell the paper by "inner" of one by "round": the boxes whose words are all "from"."""
    if paper == ():
        return ()
    if paper[0] == "ways":
        return even_inner(paper[2])
    return paper[:-2] + tuple([even_inner(part) for part in paper[-2:]])


def even_corner(paper):
    """Tell the paper by "corner" of one by "inner": the boxes that begin below all numbers."""
    if paper == ():
        return ()
    word, side, which, at, low, high = paper
    if which == 0:
        return even_corner(low)
    return (word, side, 0, at, even_corner(low), even_corner(high))


def even_joined(family, sides, one, other):
    """Tell the paper for both papers' points together: the one, and at each of its leaves the other."""
    return grafted(first_cell(sides, family), one, other)


def grafted(cell, one, other):
    """Tell a paper with, at each of its leaves, another one for the boxes of that leaf's cell."""
    if one == ():
        return drawn_in(cell, other)
    return one[:-2] + tuple([
        grafted(below, part, other) for below, part in zip(cells_below(cell, one), one[-2:])
    ])


def only_way(cell, node):
    """Tell the way, 0 or 1, on which all boxes of a cell go at a node, or None where they part.

    All words of the cell are chosen: it is that of a leaf.
    """
    word, ranges = cell[node[1]]
    if node[0] == "ways":
        return ("from", "round").index(word)
    low, high = ranges[node[2]]
    if not is_below(low, node[3]):
        return 1
    return None if is_below(node[3], high) else 0


def drawn_in(cell, paper):
    """Tell a paper for the boxes of a cell alone, without the nodes at which none of them part."""
    if paper == ():
        return ()
    way = only_way(cell, paper)
    if way is not None:
        return drawn_in(cell, paper[way - 2])
    return paper[:-2] + tuple([
        drawn_in(below, part) for below, part in zip(cells_below(cell, paper), paper[-2:])
    ])
