"""The classes of the refusals."""

import unittest

from beadrings import errors

KINDS = ("BadNumber", "BadRing", "BadWord", "NoRing", "TooMany")


class Errors(unittest.TestCase):
    def test_bead_error_is_straight_under_value_error(self):
        self.assertEqual(errors.BeadError.__bases__, (ValueError,))

    def test_each_kind_is_straight_under_bead_error(self):
        for name in KINDS:
            with self.subTest(name=name):
                self.assertEqual(getattr(errors, name).__bases__, (errors.BeadError,))

    def test_no_kind_is_another_one(self):
        for one in KINDS:
            for other in KINDS:
                with self.subTest(one=one, other=other):
                    same = issubclass(getattr(errors, one), getattr(errors, other))
                    self.assertEqual(same, one == other)

    def test_each_kind_is_raised_and_caught(self):
        for name in KINDS:
            with self.subTest(name=name):
                with self.assertRaises(errors.BeadError):
                    raise getattr(errors, name)("wrong")
                with self.assertRaises(ValueError):
                    raise getattr(errors, name)


if __name__ == "__main__":
    unittest.main()
