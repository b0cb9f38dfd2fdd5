"""Tables over a prime p: tuples of rows of figures, whose sums and products are rests by p."""

from evenpoints.fractions import is_place
from evenpoints.rows import inverse_of


def is_figures(p, many, thing):
    """Tell of any plain thing whether it is so many FIGURES."""
    if not isinstance(thing, tuple) or len(thing) != many:
        return False
    return all([is_place(figure, p) for figure in thing])


def is_table(p, rows, columns, thing):
    """Tell of any plain thing whether it is a TABLE of so many rows and columns."""
    if not isinstance(thing, tuple) or len(thing) != rows or rows < 1 or columns < 1:
        return False
    return all([is_figures(p, columns, row) for row in thing])


def columns_of(table):
    """Tell the table whose rows are a table's columns."""
    return tuple([tuple([row[column] for row in table]) for column in range(len(table[0]))])


def product_sum(p, one, other):
    """Tell the sum of figures, each times the one at its place among others."""
    return sum([x * y for x, y in zip(one, other)]) % p


def applied(p, table, figures):
    """Tell a table applied to figures: one figure for each row."""
    return tuple([product_sum(p, row, figures) for row in table])


def combined(p, table, figures):
    """Tell the sum of a table's rows, each times its one of the figures."""
    return applied(p, columns_of(table), figures)


def table_times(p, one, other):
    """Tell a table times another one."""
    columns = columns_of(other)
    return tuple([applied(p, columns, row) for row in one])


def unit_figures(many, place):
    """Tell so many figures, 1 at a place, else 0."""
    return tuple([1 if k == place else 0 for k in range(many)])


def unit_table(many):
    """Tell the table that has 1 in row i at place i, else 0."""
    return tuple([unit_figures(many, place) for place in range(many)])


def first_filled(figures):
    """Tell the first place at which figures don't have 0, or None."""
    for place, figure in enumerate(figures):
        if figure != 0:
            return place
    return None


def scaled(p, row, often):
    """Tell a row, so often."""
    return tuple([often * x % p for x in row])


def cleared(p, row, other, column):
    """Tell a row less as many of another one, which has 1 at a column, as leave it 0 there."""
    often = row[column]
    return tuple([(x - often * y) % p for x, y in zip(row, other)])


def reduced(p, table):
    """Tell (kept, combination): by a column each the row that alone has 1 there, or a combination.

    Behind each row stands how often each of the table's rows is in it; so
    where a row comes to nought, what stands behind it is the combination.
    """
    columns = len(table[0])
    kept = {}
    for number, figures in enumerate(table):
        row = figures + unit_figures(len(table), number)
        for column in kept:
            row = cleared(p, row, kept[column], column)
        pivot = first_filled(row[:columns])
        if pivot is None:
            return (kept, row[columns:])
        row = scaled(p, row, inverse_of(row[pivot], p))
        kept = {column: cleared(p, kept[column], row, pivot) for column in kept}
        kept[pivot] = row
    return (kept, None)


def right_inverse(p, table):
    """Tell a right inverse of a table, or None where a combination of it is there."""
    kept, hanging = reduced(p, table)
    if hanging is not None:
        return None
    columns = len(table[0])
    noughts = (0,) * len(table)
    return tuple([kept[column][columns:] if column in kept else noughts for column in range(columns)])


def combination(p, table):
    """Tell a combination of a table, or None where a right inverse of it is there."""
    return reduced(p, table)[1]
