"""The classes of moorwalk.errors."""

import unittest

from moorwalk import errors

STRAIGHT = [
    "BadGrid", "BadCell", "NoLand", "BadSeam", "BadWalk", "BadMove", "BadWord",
    "BadCover", "Ends", "Apart", "OneWord", "NotRound",
]


class ErrorsTest(unittest.TestCase):
    def test_moor_error_is_straight_under_value_error(self):
        self.assertEqual(errors.MoorError.__bases__, (ValueError,))

    def test_all_others_are_straight_under_moor_error(self):
        for name in STRAIGHT:
            with self.subTest(name):
                self.assertEqual(getattr(errors, name).__bases__, (errors.MoorError,))

    def test_each_is_defined_in_this_file_under_its_name(self):
        for name in STRAIGHT + ["MoorError"]:
            with self.subTest(name):
                self.assertEqual(getattr(errors, name).__name__, name)
                self.assertEqual(getattr(errors, name).__module__, "moorwalk.errors")

    def test_they_are_unlike_classes(self):
        self.assertEqual(len({getattr(errors, name) for name in STRAIGHT}), 12)

    def test_they_are_caught_as_value_errors_with_their_words(self):
        for name in STRAIGHT:
            with self.subTest(name):
                with self.assertRaises(ValueError) as caught:
                    raise getattr(errors, name)("why")
                self.assertEqual(str(caught.exception), "why")


if __name__ == "__main__":
    unittest.main()
