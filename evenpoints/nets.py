"""Tables as the sides of points, and the small boxes by whose counts they are a net."""

from evenpoints.figures import figures_in, number_of, power
from evenpoints.fractions import fraction
from evenpoints.points import MOST_POINTS
from evenpoints.rows import MOST_SIDES, piece_ends
from evenpoints.tables import applied, is_table


def is_tables(p, thing):
    """Tell of any plain thing whether it is TABLES of p."""
    if not isinstance(thing, tuple) or not 1 <= len(thing) <= MOST_SIDES:
        return False
    if not isinstance(thing[0], tuple):
        return False
    m = len(thing[0])
    return power(p, m) <= MOST_POINTS and all([is_table(p, m, m, table) for table in thing])


def table_number(p, table, figures):
    """Tell the number whose figures behind the point a table tells of figures, the highest place first."""
    told = applied(p, table, figures)
    return fraction(number_of(p, told[::-1]), power(p, len(told)))


def points_of_tables(p, tables):
    """Tell the points of tables, one side for each table."""
    m = len(tables[0])
    points = []
    for n in range(power(p, m)):
        figures = figures_in(p, n, m)
        points.append(tuple([table_number(p, table, figures) for table in tables]))
    return tuple(points)


def shapes_of(many, w):
    """Tell a list of the shapes of w of so many sides, rising."""
    if many == 1:
        return [(w,)]
    return [(first,) + rest for first in range(w + 1) for rest in shapes_of(many - 1, w - first)]


def rows_of(tables, shape):
    """Tell the rows of a shape: of each table as many of the first ones as the shape has there."""
    rows = ()
    for table, k in zip(tables, shape):
        rows += table[:k]
    return rows


def shape_box(p, shape, figures):
    """Tell the BOX of a shape whose sides are told by the figures, the highest place first."""
    box = []
    begin = 0
    for k in shape:
        c = number_of(p, figures[begin:begin + k][::-1])
        box.append(("from",) + piece_ends(p, (k, c)))
        begin += k
    return tuple(box)
