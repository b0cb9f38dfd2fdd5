"""The checker of piece papers, and what one that is let by tells of a row's points."""

from evenpoints.boxes import size_of
from evenpoints.errors import NoPaper
from evenpoints.figures import power
from evenpoints.fractions import ZERO, greater, is_below, less, lesser, product_of, rounded_up, sum_of
from evenpoints.rows import MOST_DEPTH, indexes, is_small, piece_ends

MOST_PIECES = 1000


def side_ends(side):
    """Tell where a side "to" or "from" begins and where it ends."""
    return (ZERO, side[1]) if side[0] == "to" else (side[1], side[2])


def lie_within(ends, limits):
    """Tell whether what begins and ends so begins no lower than the limits, and ends no higher."""
    return not is_below(ends[0], limits[0]) and not is_below(limits[1], ends[1])


def common_size(ends, limits):
    """Tell the size of what two stretches have in common."""
    return greater(less(lesser(ends[1], limits[1]), greater(ends[0], limits[0])), ZERO)


def is_piece_paper(row, thing):
    """Tell of any plain thing whether it is (inside, across), small boxes of a row, at most a thousand."""
    if not isinstance(thing, tuple) or len(thing) != 2:
        return False
    if not isinstance(thing[0], tuple) or not isinstance(thing[1], tuple):
        return False
    smalls = thing[0] + thing[1]
    return len(smalls) <= MOST_PIECES and all([is_small(row, small) for small in smalls])


def ends_beside(row, box, small):
    """Tell a list of pairs, for each side: the small box's ends, and the box's."""
    return [
        (piece_ends(turn[0], piece), side_ends(side)) for turn, piece, side in zip(row, small, box)
    ]


def small_lies_within(row, box, small):
    """Tell whether a small box lies within a box."""
    return all([lie_within(ends, limits) for ends, limits in ends_beside(row, box, small)])


def size_within(row, box, small):
    """Tell the size of what a small box and a box have in common."""
    return product_of([common_size(ends, limits) for ends, limits in ends_beside(row, box, small)])


def spans_of(row, small):
    """Tell a list of where a small box begins and ends at each side, in the least steps that there are."""
    spans = []
    for (base, exchange), (k, c) in zip(row, small):
        step = power(base, MOST_DEPTH - k)
        spans.append((c * step, (c + 1) * step))
    return spans


def spans_meet(one, other):
    """Tell whether two small boxes have, at each side, some numbers in common."""
    for (begin, end), (low, high) in zip(one, other):
        if end <= low or high <= begin:
            return False
    return True


def first_outside(row, box, smalls):
    """Tell the number of the first small box that doesn't lie within a box, or None."""
    for place, small in enumerate(smalls):
        if not small_lies_within(row, box, small):
            return place
    return None


def first_twice(row, smalls):
    """Tell the number of the first small box that some one ahead of it meets, or None."""
    ahead = []
    for place, small in enumerate(smalls):
        spans = spans_of(row, small)
        for former in ahead:
            if spans_meet(former, spans):
                return place
        ahead.append(spans)
    return None


def lets_pieces(row, box, thing):
    """Let any plain thing by whose small boxes have each point of a box, each once."""
    if not is_piece_paper(row, thing):
        raise NoPaper((), "shape")
    place = first_outside(row, box, thing[0])
    if place is not None:
        raise NoPaper((place,), "inside")
    smalls = thing[0] + thing[1]
    place = first_twice(row, smalls)
    if place is not None:
        raise NoPaper((place,), "twice")
    if sum_of([size_within(row, box, small) for small in smalls]) != size_of(box):
        raise NoPaper((), "cover")
    return True


def bounds_by(row, thing, many):
    """Tell (least, most): how many of so many points in order lie in the box of a paper that is let by."""
    moduli = [[indexes(row, small)[1] for small in smalls] for smalls in thing]
    least = sum([many // modulus for modulus in moduli[0]])
    most = sum([rounded_up(many, modulus) for modulus in moduli[0] + moduli[1]])
    return (least, most)
