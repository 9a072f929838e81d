"""Promises 3 and 28: the classes of errors."""

import unittest

from drillrow import errors

NAMES = ["BadRow", "BadCall", "BadCounts", "BadColour", "BadTimes", "BadGoal", "BadIndex", "BadText"]
VALUES = [None, 0, 7, -1, 10 ** 29, "", "ab", "01ab"]


class ErrorClasses(unittest.TestCase):
    def test_drill_error_is_a_direct_value_error(self):
        self.assertEqual(errors.DrillError.__bases__, (ValueError,))

    def test_each_class_is_defined_here(self):
        for name in ["DrillError"] + NAMES:
            with self.subTest(name):
                found = getattr(errors, name)
                self.assertEqual((found.__name__, found.__module__), (name, "drillrow.errors"))

    def test_each_class_is_a_direct_drill_error(self):
        for name in NAMES:
            with self.subTest(name):
                self.assertEqual(getattr(errors, name).__bases__, (errors.DrillError,))

    def test_no_class_is_another_one(self):
        for one in NAMES:
            for other in NAMES:
                with self.subTest(one=one, other=other):
                    below = issubclass(getattr(errors, one), getattr(errors, other))
                    self.assertEqual(below, one == other)

    def test_value_by_position(self):
        for name in NAMES:
            for value in VALUES:
                with self.subTest(name, value=value):
                    self.assertEqual(getattr(errors, name)(value).value, value)

    def test_value_by_name(self):
        for name in NAMES:
            for value in VALUES:
                with self.subTest(name, value=value):
                    self.assertEqual(getattr(errors, name)(value=value).value, value)

    def test_one_argument(self):
        for name in NAMES:
            with self.subTest(name):
                self.assertRaises(TypeError, getattr(errors, name))
                self.assertRaises(TypeError, getattr(errors, name), 1, 2)

    def test_each_error_is_caught_by_its_classes(self):
        for name in NAMES:
            for caught in (getattr(errors, name), errors.DrillError, ValueError):
                with self.subTest(name, caught=caught):
                    with self.assertRaises(caught) as raised:
                        raise getattr(errors, name)(3)
                    self.assertIs(raised.exception.__class__, getattr(errors, name))
                    self.assertEqual(raised.exception.value, 3)

    def test_each_object_has_its_own_value(self):
        first, second = errors.BadRow(1), errors.BadRow(2)
        self.assertEqual((first.value, second.value), (1, 2))

    def test_drill_error_can_be_raised(self):
        with self.assertRaises(ValueError):
            raise errors.DrillError("why")


if __name__ == "__main__":
    unittest.main()
