"""The errors: their fields, by place and by name, and their family."""

import unittest

from enoughpaid import errors

FIELDS = {
    "BadArrow": ["line"],
    "BadState": ["state"],
    "TooMany": ["count"],
    "BadText": ["line"],
    "BadRow": ["row"],
    "UnknownState": ["state"],
    "UnknownArrow": ["arrow"],
    "BadNumber": ["number"],
    "BadExpression": ["place"],
    "NotSettled": ["part"],
    "BadTally": [],
    "Unbounded": [],
}
VALUES = [0, -3, 10 ** 30, True, None, "", "go", 1.5, b"x", (), ("a", 1), [1, [2]], {"a": 1}, {3}, object(), int]


class ErrorsTest(unittest.TestCase):
    def test_family(self):
        self.assertEqual(errors.PaidError.__bases__, (ValueError,))
        for name in FIELDS:
            self.assertEqual(getattr(errors, name).__bases__, (errors.PaidError,), name)

    def test_fields_by_place_and_by_name(self):
        for name, fields in FIELDS.items():
            for field in fields:
                for value in VALUES:
                    error = getattr(errors, name)
                    self.assertIs(getattr(error(value), field), value)
                    self.assertIs(getattr(error(**{field: value}), field), value)

    def test_number_of_fields(self):
        for name, fields in FIELDS.items():
            error = getattr(errors, name)
            with self.assertRaises(TypeError):
                error(*[0] * (len(fields) + 1))
            if fields:
                with self.assertRaises(TypeError):
                    error()
            with self.assertRaises(TypeError):
                error(**{field: 0 for field in fields}, strange=0)

    def test_errors_without_fields(self):
        self.assertIsInstance(errors.BadTally(), errors.BadTally)
        self.assertIsInstance(errors.Unbounded(), errors.Unbounded)
        self.assertIsInstance(errors.PaidError(), ValueError)

    def test_raised_and_caught_by_each_class_of_the_family(self):
        for name, fields in FIELDS.items():
            error = getattr(errors, name)
            for kind in (error, errors.PaidError, ValueError):
                with self.assertRaises(kind) as caught:
                    raise error(*["x" for field in fields])
                for field in fields:
                    self.assertEqual(getattr(caught.exception, field), "x")

    def test_fields_are_kept_apart(self):
        one, other = errors.BadRow("a"), errors.BadRow("b")
        self.assertEqual([one.row, other.row], ["a", "b"])
        self.assertTrue(one != other)
        self.assertFalse(one == "a")

    def test_can_be_shown(self):
        for name, fields in FIELDS.items():
            error = getattr(errors, name)
            for value in VALUES:
                for made in (error(*[value for field in fields]), error(**{field: value for field in fields})):
                    self.assertIsInstance(str(made), str)
                    self.assertIsInstance(repr(made), str)


if __name__ == "__main__":
    unittest.main()
