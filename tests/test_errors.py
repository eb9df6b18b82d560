"""The refusals: their names, and what stands under what."""

import unittest

from crookroad import errors

NAMES = [
    "BadLine", "BadBottom", "OffRoad", "BadCount", "TooLong", "BadRow", "BadName",
    "Taken", "NoRoad", "NoWalker", "Stood", "Apart", "NothingDone", "BadText",
]


class ErrorClasses(unittest.TestCase):

    def test_road_error_is_a_value_error(self):
        self.assertTrue(issubclass(errors.RoadError, ValueError))
        self.assertEqual(errors.RoadError.__name__, "RoadError")

    def test_each_stands_under_road_error_and_value_error(self):
        for name in NAMES:
            with self.subTest(name=name):
                found = getattr(errors, name)
                self.assertEqual(found.__name__, name)
                self.assertIsNot(found, errors.RoadError)
                self.assertTrue(issubclass(found, errors.RoadError))
                self.assertTrue(issubclass(found, ValueError))

    def test_none_stands_under_another_one(self):
        for one in NAMES:
            for other in NAMES:
                if one != other:
                    with self.subTest(one=one, other=other):
                        self.assertFalse(issubclass(getattr(errors, one), getattr(errors, other)))

    def test_each_is_raised_with_words_and_taken_by_its_name(self):
        for name in NAMES:
            with self.subTest(name=name):
                found = getattr(errors, name)
                with self.assertRaises(found) as caught:
                    raise found("some words")
                self.assertEqual(str(caught.exception), "some words")


if __name__ == "__main__":
    unittest.main()
