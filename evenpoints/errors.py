"""The refusals: one class each, straight under EvenError, none under another.

Each keeps the very things it is made of and looks at none of them, so none of
them is turned into a message here.
"""


class EvenError(ValueError):
    """Any refusal."""


class Nought(EvenError):
    """Something is divided by nought."""

    def __init__(self, word):
        self.word = word


class NoRoom(EvenError):
    """There is nothing between."""

    def __init__(self, word):
        self.word = word


class TooMany(EvenError):
    """There are more than a told bound."""

    def __init__(self, word):
        self.word = word


class NoText(EvenError):
    """A text does not write what it is read as; place tells where."""

    def __init__(self, place):
        self.place = place


class NoPaper(EvenError):
    """A thing is no such paper; path tells where, word what is amiss."""

    def __init__(self, path, word):
        self.path = path
        self.word = word


class NoNet(EvenError):
    """A thing is no net paper."""

    def __init__(self, word, number):
        self.word = word
        self.number = number


class NoUpper(EvenError):
    """A table is not nought below the diagonal."""

    def __init__(self, number):
        self.number = number


class NoDeed(EvenError):
    """A field can not do what it is asked."""

    def __init__(self, word):
        self.word = word


class NoRow(EvenError):
    """A text is no row of the desk's."""

    def __init__(self, row):
        self.row = row
