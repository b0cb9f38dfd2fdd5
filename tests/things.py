"""Things that several tests hand in, and sums done another way."""

from fractions import Fraction
from itertools import product
from math import gcd, prod

HUGE = 10 ** 59 + 7

# Plain things that are no fraction, no point, no side and no box.
OTHER_THINGS = (
    None, True, False, 0, 1, -7, HUGE, "", "to", "1/2", "(0, 1)",
    [], (), [[]], ((),), ([],), (None,), (0,), (0, 1, 1), [0, 1],
    (True, 1), (0, True), (False, True), (1, False), ("0", "1"), ((0, 1), 1), (0, (1,)),
    (None, None), (0, 0), (1, 0), (0, 2), (0, -1), (1, -2), (2, 4), (-2, 4), (3, 3), (1, None),
    ((0,), (1,)), [(0, 1)], ([0, 1],), ((0, [1]),), ("0/1",), ((((0, 1),),),), [[(0, 1)]],
)

HALF = (1, 2)
THIRD = (1, 3)
ENDS = ((-1, 1), (-2, 3), (-1, 2), (0, 1), (1, 4), (1, 2), (2, 3), (1, 1))
NUMBERS = ((0, 1), (1, 8), (1, 4), (3, 8), (1, 2), (5, 8), (2, 3), (9, 10), (999999999998, 999999999999))


def deep(levels):
    """Make a thing of tuples and lists within one another."""
    thing = ()
    for level in range(levels):
        thing = (thing,) if level % 2 else [thing]
    return thing


def big(one):
    """Turn (n, d) into Python's own fraction."""
    return Fraction(one[0], one[1])


def small(value):
    """Turn Python's own fraction into (n, d)."""
    return (value.numerator, value.denominator)


def all_sides(ends=ENDS):
    """Make every side whose numbers are among ends."""
    tos = [("to", t) for t in ends]
    pairs = [(word, a, b) for word in ("from", "round") for a in ends for b in ends]
    return tos + pairs


def lies_plainly(x, side, way):
    """Tell by the document's words whether x lies in a side."""
    x = big(x)
    ends = [big(one) for one in side[1:]]
    if side[0] == "to":
        return x <= ends[0] if way == "shut" else x < ends[0]
    a, b = ends
    behind = a < x if way == "open" else a <= x
    ahead = x <= b if way == "shut" else x < b
    return (behind and ahead) if side[0] == "from" else (behind or ahead)


def size_plainly(side):
    """Tell by the document's words how great a side is."""
    ends = [max(big(one), Fraction(0)) for one in side[1:]]
    if side[0] == "to":
        return ends[0]
    a, b = ends
    if side[0] == "from":
        return max(b - a, Fraction(0))
    return min(1 - a + b, Fraction(1))


def inside_plainly(points, box, way):
    """Count the points of a box one by one."""
    return sum(all(lies_plainly(x, side, way) for x, side in zip(point, box)) for point in points)


def box_size_plainly(box):
    """Multiply the sizes of a box's sides."""
    size = Fraction(1)
    for side in box:
        size *= size_plainly(side)
    return size


def is_corner_plainly(s, thing):
    """Tell by the document's words whether a thing is a box of s sides of the family "corner"."""
    if type(thing) is not tuple or len(thing) != s:
        return False
    for side in thing:
        if type(side) is not tuple or len(side) != 2 or type(side[0]) is not str or side[0] != "to":
            return False
        end = side[1]
        if type(end) is not tuple or len(end) != 2 or any(type(n) is not int for n in end):
            return False
        if end[1] < 1 or gcd(end[0], end[1]) != 1 or not -1 <= big(end) <= 1:
            return False
    return True


def scattered(many, s, bottom=17, seed=1):
    """Make points by a fixed rule, some of them alike."""
    points = []
    state = seed
    for _ in range(many):
        point = []
        for _ in range(s):
            state = (state * 69069 + 12345) % 2 ** 32
            point.append(small(Fraction((state >> 16) % bottom, bottom)))
        points.append(tuple(point))
    return tuple(points)


def turned_plainly(base, exchange, n):
    """Add up exchange[a_k] over b ** (k + 1)."""
    total, k = Fraction(0), 0
    while n >= base ** k:
        total += Fraction(exchange[n // base ** k % base], base ** (k + 1))
        k += 1
    return total


def uneven_plainly(points):
    """Tell the unevenness by "corner" as Python's own fraction: the greatest over and lack of all looks."""
    ends = [sorted({big(point[side]) for point in points} | {Fraction(1)}) for side in range(len(points[0]))]
    greatest = Fraction(-1)
    for limits in product(*ends):
        size = prod(limits)
        shut = sum(all(big(x) <= t for x, t in zip(point, limits)) for point in points)
        free = sum(all(big(x) < t for x, t in zip(point, limits)) for point in points)
        greatest = max(greatest, Fraction(shut, len(points)) - size, size - Fraction(free, len(points)))
    return greatest


def altered(thing, others):
    """Make all things that come of a thing by one part, however deep, exchanged, left out, doubled or made a list."""
    made = list(others)
    if isinstance(thing, tuple):
        made.append(list(thing))
        for place, part in enumerate(thing):
            made.append(thing[:place] + thing[place + 1:])
            made.append(thing[:place] + (part,) + thing[place:])
            made += [thing[:place] + (other,) + thing[place + 1:] for other in altered(part, others)]
    elif isinstance(thing, int):
        made += [thing + 1, thing - 1, -thing, bool(thing), str(thing)]
    elif isinstance(thing, str):
        made += [thing + "s", thing[:-1], thing.upper()]
    return made
