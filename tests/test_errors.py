import unittest

from leadround import errors

NAMES = ["BadRow", "BadPlace", "BadSigns", "BadBase", "BadFigures", "BadFraction", "BadText"]


class Errors(unittest.TestCase):
    def test_row_error_is_straight_under_value_error(self):
        self.assertEqual(errors.RowError.__bases__, (ValueError,))

    def test_each_other_is_straight_under_row_error(self):
        for name in NAMES:
            with self.subTest(name):
                self.assertEqual(getattr(errors, name).__bases__, (errors.RowError,))

    def test_they_are_eight(self):
        self.assertEqual(len({errors.RowError} | {getattr(errors, name) for name in NAMES}), 8)


if __name__ == "__main__":
    unittest.main()
