"""Rows of points by figures turned about, their small boxes and their bound."""

from evenpoints.figures import power, turned, whole_back
from evenpoints.fractions import ONE, common_divisor, fraction, is_place, is_whole, lesser

LEAST_BASE = 2
MOST_BASE = 16
MOST_SIDES = 4
MOST_DEPTH = 8


def is_exchange(base, thing):
    """Tell of any plain thing whether it is an exchange of a base."""
    if not isinstance(thing, tuple) or len(thing) != base:
        return False
    if not all([is_whole(figure) for figure in thing]):
        return False
    return thing[0] == 0 and sorted(thing) == list(range(base))


def is_turn(thing):
    """Tell of any plain thing whether it is (base, exchange)."""
    if not isinstance(thing, tuple) or len(thing) != 2:
        return False
    base, exchange = thing
    return is_whole(base) and LEAST_BASE <= base <= MOST_BASE and is_exchange(base, exchange)


def stand_apart(bases):
    """Tell whether no two numbers have a common divisor above 1."""
    product = 1
    for base in bases:
        if common_divisor(product, base) != 1:
            return False
        product *= base
    return True


def is_row(thing):
    """Tell of any plain thing whether it is a row."""
    if not isinstance(thing, tuple) or not 1 <= len(thing) <= MOST_SIDES:
        return False
    return all([is_turn(turn) for turn in thing]) and stand_apart([turn[0] for turn in thing])


def points_of(row, begin, many):
    """Tell so many points of a row, from a begin on, in order."""
    return tuple([
        tuple([turned(base, exchange, n) for base, exchange in row])
        for n in range(begin, begin + many)
    ])


def is_piece(base, thing):
    """Tell of any plain thing whether it is (k, c), one side of a small box."""
    if not isinstance(thing, tuple) or len(thing) != 2:
        return False
    k, c = thing
    return is_place(k, MOST_DEPTH + 1) and is_place(c, power(base, k))


def is_small(row, thing):
    """Tell of any plain thing whether it is a small box of a row."""
    if not isinstance(thing, tuple) or len(thing) != len(row):
        return False
    return all([is_piece(turn[0], piece) for turn, piece in zip(row, thing)])


def piece_ends(base, piece):
    """Tell the fractions from which on and below which a small box's side goes."""
    k, c = piece
    bottom = power(base, k)
    return (fraction(c, bottom), fraction(c + 1, bottom))


def box_of(row, small):
    """Tell the BOX of the family "inner" that a small box is."""
    return tuple([("from",) + piece_ends(turn[0], piece) for turn, piece in zip(row, small)])


def inverse_of(one, modulus):
    """Tell the number whose product with one has the rest 1; both have no common divisor."""
    former, here = 0, 1
    rest, divisor = one, modulus
    while rest > 1:
        quotient = divisor // rest
        former, here = here, former - quotient * here
        divisor, rest = rest, divisor - quotient * rest
    return here


def indexes(row, small):
    """Tell (rest, modulus): the points in a small box are those whose numbers have that rest."""
    rest, modulus = 0, 1
    for (base, exchange), (k, c) in zip(row, small):
        step = power(base, k)
        lacks = whole_back(base, exchange, k, c) - rest
        rest += modulus * (lacks * inverse_of(modulus, step) % step)
        modulus *= step
    return (rest, modulus)


def many_in(row, small, begin, many):
    """Tell how many of so many points from a begin on lie in a small box, without a walk."""
    rest, modulus = indexes(row, small)
    return (begin + many - 1 - rest) // modulus - (begin - 1 - rest) // modulus


def figures_needed(base, many):
    """Tell the least exponent whose power of base is no less than many."""
    exponent, reached = 0, 1
    while reached < many:
        exponent += 1
        reached *= base
    return exponent


def row_bound(row, many):
    """Tell what the unevenness by "corner" of so many points, from any begin on, does not pass."""
    product = 1
    for base, exchange in row:
        product *= max(1, (base - 1) * figures_needed(base, many))
    return lesser(fraction(product + len(row), many), ONE)
