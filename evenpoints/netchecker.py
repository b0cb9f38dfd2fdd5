"""The checker of net papers, and a box without points by one that tells of none."""

from evenpoints.errors import NoNet
from evenpoints.fractions import is_whole
from evenpoints.nets import rows_of, shape_box, shapes_of
from evenpoints.tables import combined, first_filled, is_figures, is_table, table_times, unit_figures, unit_table


def is_shape(s, w, thing):
    """Tell of any plain thing whether it is a shape of w of s sides."""
    if not isinstance(thing, tuple) or len(thing) != s:
        return False
    return all([is_whole(k) and k >= 0 for k in thing]) and sum(thing) == w


def are_inverses(p, tables, w, thing):
    """Tell of any plain thing whether it has, for each shape, a table of m rows and w columns."""
    if not isinstance(thing, tuple) or len(thing) != len(shapes_of(len(tables), w)):
        return False
    return all([is_table(p, len(tables[0]), w, inverse) for inverse in thing])


def is_net_paper(p, tables, w, thing):
    """Tell of any plain thing whether it is ("net", inverses) or ("none", shape, figures)."""
    if not isinstance(thing, tuple):
        return False
    if len(thing) == 2 and thing[0] == "net":
        return are_inverses(p, tables, w, thing[1])
    if len(thing) == 3 and thing[0] == "none":
        return is_shape(len(tables), w, thing[1]) and is_figures(p, w, thing[2])
    return False


def check_inverses(p, tables, w, inverses):
    """Refuse the first table that is no right inverse of its shape's rows."""
    shapes = shapes_of(len(tables), w)
    for number, (shape, inverse) in enumerate(zip(shapes, inverses)):
        if table_times(p, rows_of(tables, shape), inverse) != unit_table(w):
            raise NoNet("inverse", number)


def check_combination(p, tables, shape, figures):
    """Refuse figures that are no combination of a shape's rows."""
    if first_filled(figures) is None:
        raise NoNet("nought", 0)
    column = first_filled(combined(p, rows_of(tables, shape), figures))
    if column is not None:
        raise NoNet("sum", column)


def lets_net(p, tables, w, thing):
    """Let any plain thing by that shows that tables are a net of strength w, or that they are none."""
    if not is_net_paper(p, tables, w, thing):
        raise NoNet("shape", 0)
    if thing[0] == "net":
        check_inverses(p, tables, w, thing[1])
    else:
        check_combination(p, tables, thing[1], thing[2])
    return True


def void_box(p, tables, paper):
    """Tell a shape box in which no point lies, by a paper ("none", ..) that is let by."""
    # The figures that the shape's rows tell of a point come to 0, each times the
    # paper's one; so no point has 1 at one place where the paper hasn't 0, else 0.
    word, shape, figures = paper
    return shape_box(p, shape, unit_figures(len(figures), first_filled(figures)))
