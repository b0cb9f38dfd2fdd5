"""Points counted by the stretches into which cuts part the sides."""

from evenpoints.choices import choices
from evenpoints.errors import TooMany
from evenpoints.fractions import is_below

MOST_PATCHES = 1000


def stretch_of(x, ends):
    """Tell the number of the stretch in which x lies: how many cuts are not above it."""
    return len([end for end in ends if not is_below(x, end)])


def patch_of(point, cuts):
    """Tell the stretch's number for each side of a point."""
    return tuple([stretch_of(x, ends) for x, ends in zip(point, cuts)])


def many_patches(cuts):
    """Tell how many patches cuts make."""
    many = 1
    for ends in cuts:
        many *= len(ends) + 1
    return many


def patches_of(cuts):
    """Tell a list of all patches that cuts make, rising."""
    return choices([list(range(len(ends) + 1)) for ends in cuts])


def counted(points, cuts):
    """Tell (patch, many) of all patches, rising, also of those with no point."""
    if many_patches(cuts) > MOST_PATCHES:
        raise TooMany("patches")
    counts = {patch: 0 for patch in patches_of(cuts)}
    for point in points:
        counts[patch_of(point, cuts)] += 1
    return tuple(counts.items())
