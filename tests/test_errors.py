"""The refusals that the interface lists, and their fields."""

import unittest

from helping import LISTED
from sparenext import errors
from sparenext.errors import (NoCount, NoHouse, NoLine, NoName, NoNeed, NoText, NoTie, NoTree, NotLike, NoWeight,
                              NoWord, SpareError)

BARE = (NoCount, NoWord, NoNeed, NoTree, NoLine)
FIELDS = ((NoHouse, "house", (12, -1)), (NoTie, "place", (0, 7, None)), (NoWeight, "place", (0, 7, None)),
          (NotLike, "tie", ((0, 3),)), (NoText, "at", (0, 5)), (NoName, "name", ("", "Home")))


class ErrorsTest(unittest.TestCase):
    def test_any_refusal_is_a_value_error(self):
        self.assertTrue(issubclass(SpareError, ValueError))
        self.assertEqual(SpareError.__module__, "sparenext.errors")

    def test_each_is_under_spare_error_and_under_no_other_one(self):
        self.assertEqual(len(LISTED), 11)
        for kind in LISTED:
            self.assertTrue(issubclass(kind, SpareError))
            for other in LISTED:
                self.assertEqual(issubclass(kind, other), kind is other)

    def test_each_is_defined_in_its_file(self):
        for kind in LISTED:
            self.assertEqual(kind.__module__, "sparenext.errors")
            self.assertIs(getattr(errors, kind.__name__), kind)

    def test_the_ones_without_fields(self):
        for kind in BARE:
            self.assertEqual(vars(kind("why")), {})

    def test_the_fields(self):
        self.assertEqual(len(FIELDS) + len(BARE), len(LISTED))
        for kind, field, worths in FIELDS:
            for worth in worths:
                self.assertEqual(vars(kind(worth)), {field: worth})

    def test_each_is_caught_in_three_ways(self):
        for kind in LISTED:
            for caught in (kind, SpareError, ValueError):
                with self.assertRaises(caught):
                    raise kind("why")


if __name__ == "__main__":
    unittest.main()
