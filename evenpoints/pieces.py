"""Piece papers made."""

from evenpoints.choices import choices
from evenpoints.errors import TooMany
from evenpoints.fractions import ZERO
from evenpoints.piecechecker import MOST_PIECES, common_size, lie_within, side_ends
from evenpoints.rows import piece_ends


def side_pieces(base, side, depth):
    """Tell the pieces of a side: a list of those within it, and one of those across its ends.

    Only what lies across is parted further, which at each depth are two pieces
    at most: so there is no walk over all pieces.
    """
    limits = side_ends(side)
    within, across = [], []
    left = [(0, 0)]
    for step in range(depth + 1):
        across = []
        for piece in left:
            ends = piece_ends(base, piece)
            if lie_within(ends, limits):
                within.append(piece)
            elif common_size(ends, limits) != ZERO:
                across.append(piece)
        left = [(k + 1, c * base + figure) for k, c in across for figure in range(base)]
    return (within, across)


def piece_paper(row, box, depth):
    """Tell a piece paper of a row and a box, by pieces down to a depth."""
    sides = [side_pieces(turn[0], side, depth) for turn, side in zip(row, box)]
    many = 1
    for within, across in sides:
        many *= len(within) + len(across)
    if many > MOST_PIECES:
        raise TooMany("pieces")
    whole = {small: True for small in choices([within for within, across in sides])}
    smalls = sorted(choices([within + across for within, across in sides]))
    return (tuple(sorted(whole)), tuple([small for small in smalls if small not in whole]))
