"""Fractions, points and boxes written as texts."""


def fraction_text(one):
    """Write a fraction: n, or n/d where d is not 1."""
    top, bottom = one
    if bottom == 1:
        return str(top)
    return f"{top}/{bottom}"


def point_text(point):
    """Write a POINT: its numbers, a comma between."""
    return ",".join([fraction_text(x) for x in point])


def points_text(points):
    """Write POINTS: each point, a blank between."""
    return " ".join([point_text(point) for point in points])


def side_text(side):
    """Write a SIDE: its word and its numbers, a colon between."""
    return ":".join([side[0]] + [fraction_text(one) for one in side[1:]])


def box_text(box):
    """Write a BOX: its sides, a comma between."""
    return ",".join([side_text(side) for side in box])
