"""Numbers turned about by their figures, and turned back."""

from evenpoints.fractions import common_divisor, fraction


def power(base, exponent):
    """Tell a whole number to a power from 0 on."""
    product = 1
    for step in range(exponent):
        product *= base
    return product


def figures_of(base, n):
    """Tell a list of a number's figures, the lowest place first, none of 0."""
    figures = []
    while n > 0:
        n, figure = divmod(n, base)
        figures.append(figure)
    return figures


def figures_in(base, n, k):
    """Tell a list of k figures of a number below base to the power k, the lowest place first."""
    figures = figures_of(base, n)
    return figures + [0] * (k - len(figures))


def number_of(base, figures):
    """Tell the number with these figures, the lowest place first."""
    n = 0
    for figure in reversed(figures):
        n = n * base + figure
    return n


def turned(base, exchange, n):
    """Tell the fraction that a number is, turned about."""
    figures = [exchange[figure] for figure in figures_of(base, n)]
    return fraction(number_of(base, figures[::-1]), power(base, len(figures)))


def least_exponent(base, bottom):
    """Tell the least exponent whose power of base is a multiple of bottom, or None."""
    exponent = 0
    while bottom > 1:
        shared = common_divisor(base, bottom)
        if shared == 1:
            return None
        bottom //= shared
        exponent += 1
    return exponent


def whole_back(base, exchange, k, c):
    """Tell the number below base to the power k whose first k figures, turned about, are c's."""
    return number_of(base, [exchange.index(figure) for figure in reversed(figures_in(base, c, k))])


def turned_back(base, exchange, x):
    """Tell the number that turned about is x, or None where there is none."""
    k = least_exponent(base, x[1])
    if k is None:
        return None
    return whole_back(base, exchange, k, x[0] * (power(base, k) // x[1]))
