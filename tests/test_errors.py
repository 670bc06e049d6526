"""The refusals' classes."""

import unittest

from wordrace import errors

NAMES = ("NoDie", "NoWord", "NoRace", "NoRow", "Over", "TooMany", "NoNote")


class ErrorClasses(unittest.TestCase):
    def test_race_error_is_straight_under_value_error(self):
        self.assertEqual(errors.RaceError.__bases__, (ValueError,))

    def test_each_refusal_is_straight_under_race_error(self):
        for name in NAMES:
            with self.subTest(name=name):
                self.assertEqual(getattr(errors, name).__bases__, (errors.RaceError,))

    def test_each_refusal_is_a_class_of_its_own(self):
        self.assertEqual(len({getattr(errors, name) for name in NAMES}), len(NAMES))

    def test_each_refusal_can_be_raised_with_words(self):
        for name in NAMES:
            with self.subTest(name=name):
                with self.assertRaises(errors.RaceError):
                    raise getattr(errors, name)("some words")


if __name__ == "__main__":
    unittest.main()
