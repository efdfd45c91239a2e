import unittest

from earthends import errors
from helpers import CLASSES


class Refusals(unittest.TestCase):
    def test_base(self):
        self.assertEqual(errors.EarthError.__bases__, (ValueError,))

    def test_each_stands_right_under_the_base(self):
        for name in CLASSES:
            self.assertEqual(getattr(errors, name).__bases__, (errors.EarthError,), name)

    def test_none_stands_under_another(self):
        for one in CLASSES:
            for other in CLASSES:
                if one != other:
                    self.assertFalse(issubclass(getattr(errors, one), getattr(errors, other)), (one, other))

    def test_no_text_has_its_row(self):
        self.assertEqual(errors.NoText(7).row, 7)
        with self.assertRaises(ValueError) as held:
            raise errors.NoText(0)
        self.assertEqual(held.exception.row, 0)


if __name__ == "__main__":
    unittest.main()
