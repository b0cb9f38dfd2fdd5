"""All choices of one thing from each of some rows."""


def choices(rows):
    """Tell a list of tuples, one thing from each row, the last row's going on first."""
    chosen = [()]
    for row in rows:
        chosen = [begun + (thing,) for begun in chosen for thing in row]
    return chosen
