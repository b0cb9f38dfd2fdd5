"""Tables made by a fixed rule, and sums over them done by the document's words."""

from fractions import Fraction
from itertools import product
from random import Random

PRIMES = (2, 3, 5, 7)
# Each prime with each count of rows and columns whose power is at most 40.
PRIMES_AND_ROWS = tuple((p, m) for p in PRIMES for m in range(1, 6) if p ** m <= 40)


def some_table(p, rows, columns, seed):
    """Make a table by a fixed rule."""
    chance = Random(f"{p} {rows} {columns} {seed}")
    return tuple(tuple(chance.randrange(p) for _ in range(columns)) for _ in range(rows))


def some_tables(p, m, s, seed):
    """Make tables of m rows and columns by a fixed rule."""
    return tuple(some_table(p, m, m, f"{seed} {side}") for side in range(s))


def all_tables(p, rows, columns):
    """Make every table of so many rows and columns."""
    lines = list(product(range(p), repeat=columns))
    return list(product(lines, repeat=rows))


def unit(many):
    """Make the table with 1 in row i at place i."""
    return tuple(tuple(int(i == k) for k in range(many)) for i in range(many))


def is_table_plainly(p, rows, columns, thing):
    """Tell by the document's words whether a thing is a table of p."""
    if type(thing) is not tuple or len(thing) < 1 or len(thing) != rows or columns < 1:
        return False
    for row in thing:
        if type(row) is not tuple or len(row) != columns:
            return False
        if not all(type(figure) is int and 0 <= figure < p for figure in row):
            return False
    return True


def times_plainly(p, one, other):
    """Multiply two tables figure by figure."""
    return tuple(
        tuple(sum(one[i][j] * other[j][k] for j in range(len(other))) % p for k in range(len(other[0])))
        for i in range(len(one)))


def combined_plainly(p, table, figures):
    """Add up a table's rows, each times its figure."""
    return tuple(
        sum(figures[i] * table[i][k] for i in range(len(table))) % p for k in range(len(table[0])))


def points_plainly(p, tables):
    """Make the points of tables by the document's words."""
    m = len(tables[0])
    points = []
    for n in range(p ** m):
        figures = [n // p ** k % p for k in range(m)]
        point = []
        for table in tables:
            told = [sum(table[i][k] * figures[k] for k in range(m)) % p for i in range(m)]
            number = sum(Fraction(told[i], p ** (i + 1)) for i in range(m))
            point.append((number.numerator, number.denominator))
        points.append(tuple(point))
    return tuple(points)


def shapes_plainly(many, w):
    """Make all shapes by a look at all tuples."""
    return [shape for shape in product(range(w + 1), repeat=many) if sum(shape) == w]


def boxes_plainly(p, shape):
    """Make all shape boxes of a shape, each as pairs of ends, from on and below."""
    ends = [[(Fraction(c, p ** k), Fraction(c + 1, p ** k)) for c in range(p ** k)] for k in shape]
    return list(product(*ends))


def count_plainly(points, ends):
    """Count the points between such ends."""
    return sum(all(a <= Fraction(*x) < b for x, (a, b) in zip(point, ends)) for point in points)


def is_net_plainly(p, tables, w):
    """Tell by a count over all shape boxes whether tables are a net of strength w."""
    points, m = points_plainly(p, tables), len(tables[0])
    return all(
        count_plainly(points, ends) == p ** (m - w)
        for shape in shapes_plainly(len(tables), w) for ends in boxes_plainly(p, shape))


def strength_plainly(p, tables):
    """Tell by counts the greatest strength of tables."""
    return max([0] + [w for w in range(1, len(tables[0]) + 1) if is_net_plainly(p, tables, w)])


def rows_plainly(tables, shape):
    """Take the first rows of each table, side by side."""
    return tuple(tables[side][i] for side in range(len(tables)) for i in range(shape[side]))


def fault_plainly(p, tables, w, thing):
    """Tell (word, number) by the document's words, or None."""
    s, m = len(tables), len(tables[0])
    shapes = shapes_plainly(s, w)
    if type(thing) is not tuple:
        return ("shape", 0)
    if len(thing) == 2 and type(thing[0]) is str and thing[0] == "net":
        inverses = thing[1]
        if type(inverses) is not tuple or len(inverses) != len(shapes):
            return ("shape", 0)
        if not all(is_table_plainly(p, m, w, inverse) for inverse in inverses):
            return ("shape", 0)
        for k, shape in enumerate(shapes):
            if times_plainly(p, rows_plainly(tables, shape), inverses[k]) != unit(w):
                return ("inverse", k)
        return None
    if len(thing) == 3 and type(thing[0]) is str and thing[0] == "none":
        shape, figures = thing[1:]
        if type(shape) is not tuple or not all(type(k) is int for k in shape) or shape not in shapes:
            return ("shape", 0)
        if not is_table_plainly(p, 1, w, (figures,)):
            return ("shape", 0)
        if not any(figures):
            return ("nought", 0)
        for k, figure in enumerate(combined_plainly(p, rows_plainly(tables, shape), figures)):
            if figure:
                return ("sum", k)
        return None
    return ("shape", 0)
