"""A base for tests of what is refused, and of what is kept or changed."""

import copy
import unittest


class MoorTest(unittest.TestCase):
    def refused(self, kind, function, *handed_in):
        """The call is refused by just this class, and not by one under or over it."""
        with self.assertRaises(kind) as caught:
            function(*handed_in)
        self.assertIs(type(caught.exception), kind)

    def tells_new(self, function, *handed_in):
        """What is told can be spoilt without an effect, and nothing handed in is changed."""
        before = copy.deepcopy(handed_in)
        told = function(*handed_in)
        self.assertEqual(handed_in, before)
        expected = copy.deepcopy(told)
        spoil(told)
        self.assertEqual(handed_in, before)
        again = function(*handed_in)
        self.assertEqual(again, expected)
        spoil(again)
        self.assertEqual(function(*copy.deepcopy(before)), expected)
        self.assertEqual(handed_in, before)


def spoil(told):
    """Change each list in what was told, the innermost first."""
    if isinstance(told, (list, tuple)):
        for part in told:
            spoil(part)
    if isinstance(told, list):
        told.reverse()
        told.append("spoilt")
