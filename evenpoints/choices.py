"""All choices of one thing from each of some rows."""


def choices(rows):
    """Tell a list of tuples, one thing from each row, the last row's going on first."""
    chosen = [()]
    for row in rows:
        chosen = [begun + (thing,) for begun in chosen for thing in row]
    return chosen


def ways_to_take(i, k):
    """Tell how many ways there are to take i of k things."""
    ways = 1
    for taken in range(i):
        ways = ways * (k - taken) // (taken + 1)
    return ways


def sets_of(some, many):
    """Tell a list of all tuples of so many of some things, each in their order, as the things go."""
    if many == 0:
        return [()]
    return [
        (thing,) + rest for place, thing in enumerate(some) for rest in sets_of(some[place + 1:], many - 1)
    ]
