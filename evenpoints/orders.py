"""Orders of points that keep even at each beginning, with a paper that none does so more."""

from evenpoints.choices import sets_of
from evenpoints.fractions import ZERO, greater, is_below
from evenpoints.looks import unevenness, worst
from evenpoints.orderchecker import places_left, times_many, with_more


def heave(points, order):
    """Tell the greatest of k times the unevenness of the first k points in an order."""
    greatest = ZERO
    for k in range(1, len(order) + 1):
        begun = [points[place] for place in order[:k]]
        greatest = greater(greatest, times_many(unevenness(begun, "corner"), k))
    return greatest


def worst_of(points, chosen):
    """Tell (number, step): so many times the unevenness of a set, and the step that shows it."""
    number, word, box = worst([points[place] for place in chosen], "corner")
    return (times_many(number, len(chosen)), (word, box))


def all_sets(many):
    """Tell a list of all sets of places, each behind those with fewer places."""
    return [chosen for k in range(many + 1) for chosen in sets_of(list(range(many)), k)]


def least_heaves(shown):
    """Tell a dict of each set's (number, order): the least heave of all orders of its points."""
    least = {(): (ZERO, ())}
    for chosen in shown:
        best = None
        for last in chosen:
            former, order = least[tuple([place for place in chosen if place != last])]
            if best is None or is_below(former, best[0]):
                best = (former, order + (last,))
        least[chosen] = (greater(best[0], shown[chosen][0]), best[1])
    return least


def steps_from(many, shown, number, chosen):
    """Tell the steps of a set's row, and a list of the sets that must stand in a row, too."""
    steps, later = [], []
    for place in places_left(many, chosen):
        more = with_more(chosen, place)
        heaved, step = shown[more]
        if is_below(heaved, number):
            steps.append(())
            later.append(more)
        else:
            steps.append(step)
    return (tuple(steps), later)


def order_paper(many, shown, number):
    """Tell an order paper: a row for the void set, and for each one that a step () leads to."""
    rows, wanted = [], {(): True}
    for chosen in [()] + list(shown):
        if chosen in wanted:
            steps, later = steps_from(many, shown, number, chosen)
            rows.append((chosen, steps))
            for more in later:
                wanted[more] = True
    return tuple(rows)


def best_order(points):
    """Tell (number, order, paper): the least heave of all orders, such an order, an order paper."""
    many = len(points)
    shown = {chosen: worst_of(points, chosen) for chosen in all_sets(many)[1:]}
    number, order = least_heaves(shown)[tuple(range(many))]
    return (number, order, order_paper(many, shown, number))
