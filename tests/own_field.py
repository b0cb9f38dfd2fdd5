"""A field's own record, kept by the document's words: each state is a whole copy."""

from things import inside_plainly

BOXES = {
    1: (
        (("to", (1, 2)),), (("to", (-1, 2)),), (("to", (1, 1)),), (("from", (1, 4), (3, 4)),), (("round", (3, 4), (1, 4)),),
        (("from", (-1, 1), (1, 8)),), (("round", (1, 1), (0, 1)),),
    ),
    2: (
        (("to", (1, 2)), ("to", (1, 2))), (("from", (1, 4), (3, 4)), ("to", (1, 1))), (("round", (3, 4), (1, 4)), ("from", (0, 1), (1, 2))),
        (("to", (1, 1)), ("to", (1, 1))), (("to", (0, 1)), ("to", (1, 1))),
    ),
    3: ((("to", (1, 2)),) * 3, (("to", (1, 1)),) * 3, (("from", (1, 8), (1, 1)), ("to", (1, 1)), ("round", (1, 2), (1, 8)))),
    4: ((("to", (1, 2)),) * 4, (("to", (1, 1)),) * 4, (("from", (1, 8), (1, 1)), ("to", (1, 1))) * 2),
}


class Record:
    """What a field of s sides holds, with all states that can come back."""

    def __init__(self):
        self.states = [((), {})]
        self.boxes = []
        self.turned = []

    def standing(self):
        return self.states[-1][1]

    def many_puts(self):
        return len(self.states[-1][0])

    def deed(self, change):
        """Do a deed on the states; keep which watches' counts it turned."""
        former = self.counts()
        change()
        self.turned = [k for k, (one, other) in enumerate(zip(former, self.counts())) if one != other]

    def put(self, point):
        puts, standing = self.states[-1]
        self.deed(lambda: self.states.append((puts + (point,), {**standing, len(puts): point})))
        return len(puts)

    def take(self, number):
        puts, standing = self.states[-1]
        self.deed(lambda: self.states.append((puts, {k: standing[k] for k in standing if k != number})))

    def undo(self):
        self.deed(self.states.pop)

    def numbers(self):
        return sorted(self.standing())

    def points(self):
        return [self.standing()[number] for number in self.numbers()]

    def counts(self):
        return [inside_plainly(self.points(), box, "half") for box in self.boxes]
