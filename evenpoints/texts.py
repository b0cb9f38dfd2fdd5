"""Fractions, points and boxes written as texts."""

PIECE = 10 ** 64
PIECE_FIGURES = 64


def whole_text(n):
    """Write a whole number's figures, a - ahead of one below 0."""
    if n < 0:
        return "-" + whole_text(-n)
    # Python refuses to write very long numbers at once, so they are written piece by piece.
    pieces = []
    while n >= PIECE:
        n, rest = divmod(n, PIECE)
        pieces.append(str(rest).zfill(PIECE_FIGURES))
    pieces.append(str(n))
    return "".join(pieces[::-1])


def fraction_text(one):
    """Write a fraction: n, or n/d where d is not 1."""
    top, bottom = one
    if bottom == 1:
        return whole_text(top)
    return f"{whole_text(top)}/{whole_text(bottom)}"


def point_text(point):
    """Write a POINT: its numbers, a comma between."""
    return ",".join([fraction_text(x) for x in point])


def points_text(points):
    """Write POINTS: each point, a blank between."""
    return " ".join([point_text(point) for point in points])


def side_text(side):
    """Write a SIDE: its word and its numbers, a colon between."""
    return ":".join([side[0]] + [fraction_text(one) for one in side[1:]])


def box_text(box):
    """Write a BOX: its sides, a comma between."""
    return ",".join([side_text(side) for side in box])
