"""Refusals: point 2 and the interface's row "errors"."""

import unittest

from evenpoints import errors

FIELDS = {
    "Nought": ("word",),
    "NoRoom": ("word",),
    "TooMany": ("word",),
    "NoText": ("place",),
    "NoPaper": ("path", "word"),
    "NoNet": ("word", "number"),
    "NoUpper": ("number",),
    "NoDeed": ("word",),
    "NoRow": ("row",),
}


class Shy:
    """A thing that can not be looked at."""

    def refuse(self, *others):
        raise AssertionError("looked at")

    __eq__ = __hash__ = __str__ = __repr__ = __len__ = __bool__ = __iter__ = __getitem__ = refuse


class ErrorsTest(unittest.TestCase):
    def test_base(self):
        self.assertEqual(errors.EvenError.__bases__, (ValueError,))

    def test_each_stands_straight_under_the_base(self):
        for name in FIELDS:
            self.assertEqual(getattr(errors, name).__bases__, (errors.EvenError,), name)

    def test_keeps_the_very_things(self):
        for name, fields in FIELDS.items():
            things = [[name, field, []] for field in fields]
            error = getattr(errors, name)(*things)
            for field, thing in zip(fields, things):
                self.assertIs(getattr(error, field), thing)
                self.assertEqual(thing, [name, field, []])

    def test_looks_at_none_of_them(self):
        for name, fields in FIELDS.items():
            things = [Shy() for field in fields]
            error = getattr(errors, name)(*things)
            for field, thing in zip(fields, things):
                self.assertIs(getattr(error, field), thing)

    def test_any_plain_thing(self):
        for thing in (None, True, 0, -10 ** 59, "", "a", [], (), ([], (1,))):
            for name, fields in FIELDS.items():
                error = getattr(errors, name)(*[thing for field in fields])
                for field in fields:
                    self.assertIs(getattr(error, field), thing)

    def test_caught_by_the_base_and_by_none_other(self):
        for name, fields in FIELDS.items():
            error = getattr(errors, name)(*fields)
            self.assertIsInstance(error, errors.EvenError)
            for other in FIELDS:
                self.assertEqual(isinstance(error, getattr(errors, other)), other == name)


if __name__ == "__main__":
    unittest.main()
