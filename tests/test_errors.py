"""The error classes, under "The interface"."""

import unittest

from samples import Case, frozen, odd_values
from sixasone import errors

FIELDS = {
    "BadRatio": ("at",), "NoRatio": (), "BadName": ("name",), "BadWeb": ("at",), "NoName": ("name",), "NotTied": (),
    "NotPlain": ("name",), "BadValue": ("name",), "NoValue": ("name",), "BadTree": (), "BadStream": (),
    "BadHeights": (), "NoTurn": ("at",), "TooMany": ("most",), "BadText": ("at",), "Worse": ("way", "cut"),
    "Barred": ("cut",), "NoLine": (),
}


class ErrorsTest(Case):
    def test_each_stands_below_the_base_alone(self):
        self.assertEqual(errors.WebError.__bases__, (ValueError,))
        for word in FIELDS:
            self.assertEqual(getattr(errors, word).__bases__, (errors.WebError,))

    def test_there_are_no_others(self):
        found = {word for word in vars(errors) if not word.startswith("_")}
        self.assertEqual(found, set(FIELDS) | {"WebError"})

    def test_fields_by_position_and_by_name(self):
        for word, fields in FIELDS.items():
            for odd in odd_values():
                told = [odd] + ["second"] * (len(fields) - 1) if fields else []
                by_position = getattr(errors, word)(*told)
                by_name = getattr(errors, word)(**dict(zip(fields, told)))
                for made in (by_position, by_name):
                    self.assertEqual(tuple(vars(made)), fields)
                    self.assertEqual(frozen([getattr(made, field) for field in fields]), frozen(told))

    def test_fields_are_the_very_values(self):
        thing = ["a"]
        self.assertIs(errors.BadName(thing).name, thing)

    def test_raised_and_caught(self):
        with self.assertRaises(ValueError):
            raise errors.Worse(("a",), ("b",))


if __name__ == "__main__":
    unittest.main()
