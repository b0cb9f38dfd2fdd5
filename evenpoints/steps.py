"""Points by steps of a fraction, and their bound."""

from evenpoints.fractions import ONE, fraction, lesser, plus, times, wrapped


def step_number(start, step, n):
    """Tell the number of point n: start and n times step, less what is whole of it."""
    return wrapped(plus(start, times((n, 1), step)))


def stepped(start, step, many):
    """Tell so many points by steps, from 0 on, in order."""
    return tuple([(step_number(start, step, n),) for n in range(many)])


def denominators(step):
    """Tell the denominators of a step by its quotients, rising, each once."""
    rest, divisor = step
    former, here = 0, 1
    told = [here]
    while rest > 0:
        former, here = here, divisor // rest * here + former
        divisor, rest = rest, divisor % rest
        told.append(here)
    return tuple(sorted(set(told)))


def blocks(step, many):
    """Tell (denominator, how often), from the greatest down, as many as go into what is left."""
    told = []
    left = many
    for denominator in reversed(denominators(step)):
        often, left = divmod(left, denominator)
        if often > 0:
            told.append((denominator, often))
    return tuple(told)


def step_bound(step, many):
    """Tell what no box by "round" is missed by more, whatever the start of so many points."""
    blocks_in_all = sum([often for denominator, often in blocks(step, many)])
    return lesser(fraction(2 * blocks_in_all, many), ONE)
