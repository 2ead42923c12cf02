"""The error classes: their names, their base and their fields."""

import unittest

from restlesshelf import errors

FIELDS = {
    "BadHabit": ("place",), "BadLayout": (), "BadPlace": (), "BadWord": (), "BadProgram": ("index",),
    "BadInputs": (), "BadNumber": (), "BadPlan": (), "BadHabits": ("index",), "BadStand": ("index",),
    "BadNames": (), "NoWay": (), "BadString": (), "BadLine": ("line", "word"), "BadStep": (), "TooMany": ("most",),
    "BadAnswer": (), "BadBlock": (), "BadTree": (), "BadCopies": (), "BadLayouts": (), "BadDeeds": (), "BadWeave": (),
}


class ErrorTests(unittest.TestCase):
    def test_base(self):
        self.assertEqual(errors.ShelfError.__bases__, (ValueError,))

    def test_all_are_direct_subclasses(self):
        for name in FIELDS:
            self.assertEqual(getattr(errors, name).__bases__, (errors.ShelfError,), name)

    def test_there_are_no_others(self):
        names = [name for name, value in vars(errors).items() if isinstance(value, type)]
        self.assertEqual(sorted(names), sorted(list(FIELDS) + ["ShelfError"]))

    def test_fields(self):
        for name, fields in FIELDS.items():
            values = list(range(3, 3 + len(fields)))
            error = getattr(errors, name)(*values)
            self.assertEqual(vars(error), dict(zip(fields, values)), name)

    def test_fields_by_name(self):
        self.assertEqual(vars(errors.BadLine(word=2, line=1)), {"line": 1, "word": 2})
        self.assertIsNone(errors.BadHabit(place=None).place)


if __name__ == "__main__":
    unittest.main()
