"""Net papers made."""

from evenpoints.nets import rows_of, shapes_of
from evenpoints.tables import combination, right_inverse


def net_paper(p, tables, w):
    """Tell a net paper for tables and a strength: ("net", ..) where they are such a net, else ("none", ..)."""
    inverses = []
    for shape in shapes_of(len(tables), w):
        rows = rows_of(tables, shape)
        hanging = combination(p, rows)
        if hanging is not None:
            return ("none", shape, hanging)
        inverses.append(right_inverse(p, rows))
    return ("net", tuple(inverses))
