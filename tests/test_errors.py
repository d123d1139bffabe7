"""The error classes: what each stands under, and that none stands under another."""

import unittest

from evenhub import errors

REFUSALS = (
    "NoTurn", "NoFit", "TooWide", "NoRing", "NoHole", "NoWheel",
    "NoNumber", "NoQuotient", "NoText", "NoName", "NoRow",
)


class ErrorClasses(unittest.TestCase):
    def test_hub_error_stands_under_value_error_itself(self):
        self.assertEqual(errors.HubError.__bases__, (ValueError,))

    def test_each_refusal_stands_under_hub_error_itself(self):
        for name in REFUSALS:
            with self.subTest(name=name):
                refusal = getattr(errors, name)
                self.assertEqual(refusal.__name__, name)
                self.assertEqual(refusal.__bases__, (errors.HubError,))

    def test_no_refusal_stands_under_another(self):
        for name in REFUSALS:
            for other in REFUSALS:
                if name != other:
                    with self.subTest(name=name, other=other):
                        self.assertFalse(issubclass(getattr(errors, name), getattr(errors, other)))

    def test_hub_error_stands_under_no_refusal(self):
        for name in REFUSALS:
            self.assertFalse(issubclass(errors.HubError, getattr(errors, name)))

    def test_each_is_raised_and_taken_with_or_without_words(self):
        for name in REFUSALS + ("HubError",):
            refusal = getattr(errors, name)
            for made in (refusal(), refusal("some words")):
                with self.subTest(name=name, words=made.args):
                    with self.assertRaises(errors.HubError):
                        raise made
                    self.assertIsInstance(made, ValueError)


if __name__ == "__main__":
    unittest.main()
