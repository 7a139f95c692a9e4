"""Promise [10]: the error classes."""

import unittest

from lastthrough import errors

FIELDS = {
    "LastThroughError": (),
    "InvalidHouse": ("reason",),
    "InvalidState": ("reason",),
    "InvalidPlan": ("reason",),
    "InvalidPerson": ("person",),
    "InvalidRoom": ("room",),
    "InvalidDoor": ("door",),
    "InvalidCount": (),
    "InvalidBits": (),
    "InvalidSchedule": ("reason",),
    "MoveBlocked": ("index", "reason"),
    "IndexTooLarge": ("count",),
    "ProblemTooLarge": ("count",),
    "NothingToUndo": (),
}

CLASSES = [(getattr(errors, name), fields) for name, fields in FIELDS.items()]


class TestErrors(unittest.TestCase):

    def test_base_classes(self):
        self.assertEqual(errors.LastThroughError.__bases__, (ValueError,))
        for error, _ in CLASSES:
            if error is not errors.LastThroughError:
                self.assertEqual(error.__bases__, (errors.LastThroughError,))

    def test_defined_in_the_module(self):
        for error, _ in CLASSES:
            self.assertEqual(error.__module__, "lastthrough.errors")

    def test_no_arguments(self):
        for error, fields in CLASSES:
            self.assertEqual(vars(error()), {field: None for field in fields})

    def test_positional_arguments(self):
        for error, fields in CLASSES:
            given = [[field, {}] for field in fields]
            made = error(*given)
            self.assertEqual(list(vars(made)), list(fields))
            for field, worth in zip(fields, given):
                self.assertIs(getattr(made, field), worth)

    def test_keyword_arguments(self):
        for error, fields in CLASSES:
            given = {field: [field, {}] for field in reversed(fields)}
            made = error(**given)
            self.assertEqual(sorted(vars(made)), sorted(fields))
            for field in fields:
                self.assertIs(getattr(made, field), given[field])

    def test_one_of_two_fields(self):
        self.assertEqual(vars(errors.MoveBlocked(3)), {"index": 3, "reason": None})
        self.assertEqual(vars(errors.MoveBlocked(index=3)), {"index": 3, "reason": None})
        self.assertEqual(vars(errors.MoveBlocked(reason=("away",))), {"index": None, "reason": ("away",)})

    def test_position_and_keyword_together(self):
        made = errors.MoveBlocked(3, reason=("barred",))
        self.assertEqual(vars(made), {"index": 3, "reason": ("barred",)})

    def test_falsy_values_are_kept(self):
        for worth in (0, False, "", (), [], {}):
            for error, fields in CLASSES:
                for field in fields:
                    self.assertIs(getattr(error(**{field: worth}), field), worth)

    def test_raised_and_caught(self):
        for error, fields in CLASSES:
            for base in (error, errors.LastThroughError, ValueError):
                with self.assertRaises(base):
                    raise error(*fields)


if __name__ == "__main__":
    unittest.main()
