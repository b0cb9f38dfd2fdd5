"""A field: points put and taken by numbers, undone, counted and watched."""

from evenpoints.boxes import inside, lies_in
from evenpoints.errors import NoDeed
from evenpoints.fractions import is_place
from evenpoints.looks import first_greatest, misses
from evenpoints.points import MOST_POINTS, is_point


class Field:
    """Points of s sides by numbers.

    All points whose put isn't undone are held at their numbers; a deed is
    kept as the number that it put or took and whether it put it.
    """

    def __init__(self, s):
        self.sides = s
        self.held = []
        self.standing = []
        self.deeds = []
        self.boxes = []
        self.turned_watches = []

    def put(self, point):
        """Put a point, any plain thing; tell its number."""
        if not is_point(self.sides, point):
            raise NoDeed("point")
        if len(self.numbers()) >= MOST_POINTS:
            raise NoDeed("full")
        number = len(self.held)
        self.held.append(point)
        self.standing.append(True)
        self.deeds.append((number, True))
        self.mark_turned(point)
        return number

    def take(self, number):
        """Take the point of a number, any plain thing."""
        if not is_place(number, len(self.held)) or not self.standing[number]:
            raise NoDeed("number")
        self.standing[number] = False
        self.deeds.append((number, False))
        self.mark_turned(self.held[number])

    def undo(self):
        """Undo the last put or take that isn't undone."""
        if len(self.deeds) == 0:
            raise NoDeed("undo")
        number, was_put = self.deeds.pop()
        self.mark_turned(self.held[number])
        if was_put:
            # All puts behind it are undone, so its number is the last one.
            self.held.pop()
            self.standing.pop()
        else:
            self.standing[number] = True

    def mark_turned(self, point):
        """Keep which watches' counts are turned by a point that comes or goes."""
        self.turned_watches = [k for k, box in enumerate(self.boxes) if lies_in(point, box, "half")]

    def numbers(self):
        """Tell the numbers that stand, rising."""
        return [number for number, stands in enumerate(self.standing) if stands]

    def points(self):
        """Tell the points that stand, in the order of their numbers."""
        return [self.held[number] for number in self.numbers()]

    def count_of(self, box):
        """Tell how many of the points lie in a box."""
        return inside(self.points(), box, "half")

    def worst(self, family):
        """Tell (number, way, box): the unevenness of the points, and a box whose over or lack it is."""
        points = self.points()
        if len(points) == 0:
            raise NoDeed("none")
        return first_greatest(misses(points, family))

    def uneven(self, family):
        """Tell the unevenness of the points by a family."""
        return self.worst(family)[0]

    def watch(self, box):
        """Watch a box; tell the watch's number."""
        self.boxes.append(box)
        return len(self.boxes) - 1

    def is_watch(self, k):
        """Tell whether there is a watch of a number."""
        return is_place(k, len(self.boxes))

    def watched(self, k):
        """Tell how many points lie in a watch's box now."""
        return self.count_of(self.boxes[k])

    def changed(self):
        """Tell a list of the watches whose count the last deed turned, rising."""
        return list(self.turned_watches)
