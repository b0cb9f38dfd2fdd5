"""The strength of tables, their beginnings, tables of full strength, and the bound of a net."""

from evenpoints.choices import ways_to_take
from evenpoints.errors import NoUpper
from evenpoints.figures import power
from evenpoints.fractions import ONE, fraction, lesser
from evenpoints.netpapers import net_paper
from evenpoints.tables import unit_table


def strength(p, tables):
    """Tell the greatest w for which tables are a net of strength w; 0 where they are none of 1."""
    for w in range(len(tables[0]), 0, -1):
        if net_paper(p, tables, w)[0] == "net":
            return w
    return 0


def is_upper(table):
    """Tell whether a table is nought below the diagonal."""
    return all([figure == 0 for number, row in enumerate(table) for figure in row[:number]])


def beginning(tables, k):
    """Tell the tables of k rows and columns whose points are the first ones of the tables' points."""
    for number, table in enumerate(tables):
        if not is_upper(table):
            raise NoUpper(number)
    return tuple([tuple([row[:k] for row in table[:k]]) for table in tables])


def sum_figure(p, j, i, k):
    """Tell the figure of sum table number j in row i at place k."""
    if i > k:
        return 0
    return ways_to_take(i, k) * power(j, k - i) % p


def sum_tables(p, m, s):
    """Tell the sum tables: nought below the diagonal, a net of strength m."""
    return tuple([
        tuple([tuple([sum_figure(p, j, i, k) for k in range(m)]) for i in range(m)])
        for j in range(s)
    ])


def mirrored_tables(p, m, s):
    """Tell the sum tables of a side less, and ahead of them the table with 1 in row i at place m - 1 - i."""
    return (unit_table(m)[::-1],) + sum_tables(p, m, s - 1)


def pieces_bound(p, s, v):
    """Tell B(s, v): by how many shares of p to the power v, at most, a corner box of a net of s sides misses."""
    if s == 1:
        return 1
    return 1 + (p - 1) * sum([pieces_bound(p, s - 1, u) for u in range(v)])


def net_bound(p, s, w):
    """Tell what the unevenness by "corner" of a net of strength w of s sides does not pass."""
    return lesser(fraction(pieces_bound(p, s, w), power(p, w)), ONE)
