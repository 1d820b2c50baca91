"""Point 8 and the interface: the five error classes."""

import unittest

from spinsum import errors

REFUSALS = ("NoPrime", "NoRest", "NoRow", "NoRoot")


class ErrorClasses(unittest.TestCase):
    def test_spin_error_stands_straight_under_value_error(self):
        self.assertEqual(errors.SpinError.__bases__, (ValueError,))

    def test_each_refusal_stands_straight_under_spin_error(self):
        for name in REFUSALS:
            with self.subTest(name=name):
                self.assertEqual(getattr(errors, name).__bases__, (errors.SpinError,))

    def test_no_refusal_stands_under_another(self):
        for name in REFUSALS:
            for other in REFUSALS:
                with self.subTest(name=name, other=other):
                    under = issubclass(getattr(errors, name), getattr(errors, other))
                    self.assertEqual(under, name == other)

    def test_classes_bear_their_names(self):
        for name in REFUSALS + ("SpinError",):
            with self.subTest(name=name):
                self.assertEqual(getattr(errors, name).__name__, name)

    def test_each_is_taken_as_spin_error_and_as_value_error(self):
        for name in REFUSALS + ("SpinError",):
            for taken in (errors.SpinError, ValueError):
                with self.subTest(name=name, taken=taken):
                    with self.assertRaises(taken):
                        raise getattr(errors, name)("words")


if __name__ == "__main__":
    unittest.main()
