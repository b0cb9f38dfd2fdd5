"""Sheets: sums over points, their wholes and the weights of the corner boxes that make them."""

from evenpoints.boxes import lies_in
from evenpoints.fractions import ONE, ZERO, less, over, plus, product_of, sum_of, times
from evenpoints.patches import patch_of, patches_of


def value_in(sheet, patch):
    """Tell the fraction of a sheet for a stretch's number at each side."""
    value = sheet[1]
    for stretch in patch:
        value = value[stretch]
    return value


def value_at(sheet, point):
    """Tell a sheet's value at a point."""
    return value_in(sheet, patch_of(point, sheet[0]))


def mean_of(sheet, points):
    """Tell the sum of a sheet's values at points, divided by how many they are."""
    return over(sum_of([value_at(sheet, point) for point in points]), (len(points), 1))


def stretch_length(ends, stretch):
    """Tell the length of a stretch of a side with these cuts."""
    limits = (ZERO,) + ends + (ONE,)
    return less(limits[stretch + 1], limits[stretch])


def patch_size(cuts, patch):
    """Tell the product of a patch's stretches' lengths."""
    return product_of([stretch_length(ends, stretch) for ends, stretch in zip(cuts, patch)])


def whole_of(sheet):
    """Tell the sum of each value times its stretches' lengths."""
    cuts = sheet[0]
    return sum_of([times(value_in(sheet, patch), patch_size(cuts, patch)) for patch in patches_of(cuts)])


def next_patch(patch, side):
    """Tell the patch whose stretch at a side is the next one."""
    return patch[:side] + (patch[side] + 1,) + patch[side + 1:]


def falls_of(sheet):
    """Tell a dict of what each patch's value lacks of the next ones, side by side."""
    cuts = sheet[0]
    falls = {patch: value_in(sheet, patch) for patch in patches_of(cuts)}
    for side in range(len(cuts)):
        falls = {patch: less(falls[patch], falls.get(next_patch(patch, side), ZERO)) for patch in falls}
    return falls


def patch_corner(cuts, patch):
    """Tell the corner box that ends where a patch ends."""
    return tuple([("to", (ends + (ONE,))[stretch]) for ends, stretch in zip(cuts, patch)])


def weights_of(sheet):
    """Tell (box, fraction) of the corner boxes that make a sheet, those of nought left out."""
    falls = falls_of(sheet)
    return tuple([(patch_corner(sheet[0], patch), falls[patch]) for patch in falls if falls[patch] != ZERO])


def values_from(cuts, weights, begun):
    """Tell the values behind a begun patch's first point, of the sides that are left."""
    side = len(begun)
    if side == len(cuts):
        return sum_of([weight for box, weight in weights if lies_in(begun, box, "half")])
    return tuple([values_from(cuts, weights, begun + (begin,)) for begin in (ZERO,) + cuts[side]])


def sheet_of(cuts, weights):
    """Tell the sheet with these cuts that weights make."""
    return (cuts, values_from(cuts, weights, ()))


def swing_of(sheet):
    """Tell the sum of all weights, each without its sign, but that of the box that ends at 1 at each side."""
    swing = ZERO
    for box, (top, bottom) in weights_of(sheet):
        if box != (("to", ONE),) * len(box):
            swing = plus(swing, (abs(top), bottom))
    return swing
