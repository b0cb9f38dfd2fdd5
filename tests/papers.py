"""Even papers for tests: what a cell tells, checked by the document's words, and papers made another way."""

from fractions import Fraction
from random import Random

from things import big, small

FAMILIES = ("corner", "inner", "round")
LOW, HIGH = (-1, 1), (1, 1)


def cell_plainly(points, cell):
    """Tell (sure, perhaps, least, most) by the document's words."""
    sure = perhaps = 0
    for point in points:
        told = [lies_plainly(big(x), word, ranges) for x, (word, ranges) in zip(point, cell)]
        if all(one for one, other in told):
            sure += 1
        elif all(other for one, other in told):
            perhaps += 1
    least, most = Fraction(1), Fraction(1)
    for word, ranges in cell:
        low, high = sizes_plainly(word, ranges)
        least, most = least * low, most * high
    return (sure, perhaps, small(least), small(most))


def lies_plainly(x, word, ranges):
    """Tell whether x lies surely, and perhaps, in a side of a cell."""
    rows = [[big(end) for end in limits] for limits in ranges]
    if word == "to":
        (lo, hi), = rows
        return x <= lo, x < hi
    (alo, ahi), (blo, bhi) = rows
    if word == "from":
        return ahi <= x and x <= blo, alo < x and x < bhi
    return ahi <= x or x <= blo, alo < x or x < bhi


def sizes_plainly(word, ranges):
    """Tell the least and the most size of a cell's side."""
    rows = [[max(big(end), Fraction(0)) for end in limits] for limits in ranges]
    if word == "to":
        return rows[0][0], rows[0][1]
    (alo, ahi), (blo, bhi) = rows
    if word == "from":
        return max(blo - ahi, Fraction(0)), max(bhi - alo, Fraction(0))
    return min(1 - ahi + blo, Fraction(1)), min(1 - alo + bhi, Fraction(1))


def root_cell(s, family):
    """Tell the cell of a paper's root, each side a list [word, range, ..]."""
    if family == "corner":
        return [["to", (LOW, HIGH)] for side in range(s)]
    return [["from" if family == "inner" else None, (LOW, HIGH), (LOW, HIGH)] for side in range(s)]


def below_plainly(cell, node):
    """Tell the cells of P and Q."""
    cells = [[list(row) for row in cell] for way in range(2)]
    if node[0] == "ways":
        cells[0][node[1]][0], cells[1][node[1]][0] = "from", "round"
    else:
        word, side, which, at = node[:4]
        lo, hi = cell[side][1 + which]
        cells[0][side][1 + which], cells[1][side][1 + which] = (lo, at), (at, hi)
    return cells


def is_int(thing):
    return isinstance(thing, int) and not isinstance(thing, bool)


def is_fraction_plainly(thing):
    if not (isinstance(thing, tuple) and len(thing) == 2 and is_int(thing[0]) and is_int(thing[1]) and thing[1] > 0):
        return False
    return Fraction(*thing).denominator == thing[1]


def shape_plainly(s, family, thing):
    """Tell by the document's words whether a thing is a node by kind."""
    if not isinstance(thing, tuple):
        return False
    if thing == ():
        return True
    if thing[0] not in ("cut", "ways") or len(thing) != {"cut": 6, "ways": 4}[thing[0]]:
        return False
    if not is_int(thing[1]) or thing[1] not in range(s):
        return False
    if thing[0] == "ways":
        return True
    whiches = (0,) if family == "corner" else (0, 1)
    return is_int(thing[2]) and thing[2] in whiches and is_fraction_plainly(thing[3])


def leaf_plainly(points, number, cell):
    """Tell what is amiss with a leaf."""
    if any(row[0] is None for row in cell):
        return "word"
    sure, perhaps, least, most = cell_plainly(points, [(row[0], tuple(row[1:])) for row in cell])
    if Fraction(sure + perhaps, len(points)) - big(least) > big(number):
        return "over"
    if big(most) - Fraction(sure, len(points)) > big(number):
        return "lack"
    return None


def fault_plainly(points, family, number, thing, cell=None, path=()):
    """Tell (path, word) of the first node amiss, or None, by the document's words."""
    s = len(points[0])
    cell = root_cell(s, family) if cell is None else cell
    if len(path) > 36:
        return (path, "deep")
    if not shape_plainly(s, family, thing):
        return (path, "shape")
    if thing == ():
        word = leaf_plainly(points, number, cell)
        return None if word is None else (path, word)
    if thing[0] == "cut":
        lo, hi = cell[thing[1]][1 + thing[2]]
        if not big(lo) < big(thing[3]) < big(hi):
            return (path, "cut")
    elif family != "round" or cell[thing[1]][0] is not None:
        return (path, "ways")
    for way, below in enumerate(below_plainly(cell, thing)):
        fault = fault_plainly(points, family, number, thing[way - 2], below, path + (way,))
        if fault is not None:
            return fault
    return None


def many_nodes(paper):
    """Tell how many nodes a paper has."""
    return 1 + sum(many_nodes(part) for part in paper[-2:])


def longest_way(paper):
    """Tell how many numbers the longest way to a node has."""
    return 1 + max(longest_way(part) for part in paper[-2:]) if paper else 0


def paths_of(paper, path=()):
    """Tell the paths to all nodes of a paper, a node ahead of its P, this ahead of its Q."""
    paths = [path]
    for way, part in enumerate(paper[-2:]):
        paths += paths_of(part, path + (way,))
    return paths


def node_at(paper, path):
    """Tell the node to which a path leads."""
    for way in path:
        paper = paper[way - 2]
    return paper


def with_node(paper, path, thing):
    """Tell a paper with another thing in the place of a node."""
    if path == ():
        return thing
    parts = list(paper)
    parts[path[0] - 2] = with_node(paper[path[0] - 2], path[1:], thing)
    return tuple(parts)


def other_paper(points, family, number, seed, wild=6):
    """Make a paper that is let by, with cuts anywhere in its first nodes, ways in any order."""
    return grown_wild(points, number, root_cell(len(points[0]), family), Random(seed), wild)


def grown_wild(points, number, cell, chance, wild):
    if leaf_plainly(points, number, cell) is None and (wild <= 0 or chance.random() < 0.3):
        return ()
    head = wild_head(points, cell, chance, wild)
    below = below_plainly(cell, head)
    return head + tuple(grown_wild(points, number, part, chance, wild - 1) for part in below)


def wild_head(points, cell, chance, wild):
    """Choose the next node: a word that lacks, a cut at a point's number, or one anywhere."""
    heads = [("ways", side) for side, row in enumerate(cell) if row[0] is None]
    if wild <= 0 and heads:
        return chance.choice(heads)
    for side, row in enumerate(cell):
        for which, (lo, hi) in enumerate(row[1:]):
            between = sorted({big(point[side]) for point in points if big(lo) < big(point[side]) < big(hi)})
            if wild > 0:
                at = big(lo) + (big(hi) - big(lo)) * Fraction(chance.randrange(1, 8), 8)
                heads.append(("cut", side, which, small(at)))
            if between:
                at = chance.choice(between) if wild > 0 else between[len(between) // 2]
                heads.append(("cut", side, which, small(at)))
    return chance.choice(heads)
