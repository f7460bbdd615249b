"""The error classes: how they stand under one another."""

import unittest

from cornerdoors import errors

NAMES = ["BadNet", "NoPlace", "NoTriangle", "NoFloor", "NoEnd", "NotRuled"]


class ErrorClasses(unittest.TestCase):
    def test_door_error_is_a_value_error(self):
        self.assertEqual(errors.DoorError.__bases__, (ValueError,))

    def test_each_stands_under_door_error_alone(self):
        for name in NAMES:
            with self.subTest(name):
                self.assertEqual(getattr(errors, name).__bases__, (errors.DoorError,))

    def test_none_stands_under_another(self):
        for name in NAMES:
            for other in NAMES:
                with self.subTest(name=name, other=other):
                    under = issubclass(getattr(errors, name), getattr(errors, other))
                    self.assertEqual(under, name == other)

    def test_each_bears_its_name(self):
        for name in NAMES + ["DoorError"]:
            self.assertEqual(getattr(errors, name).__name__, name)

    def test_each_is_raised_and_taken(self):
        for name in NAMES:
            with self.subTest(name):
                with self.assertRaises(errors.DoorError):
                    raise getattr(errors, name)("words")
                with self.assertRaises(ValueError):
                    raise getattr(errors, name)("words")


if __name__ == "__main__":
    unittest.main()
