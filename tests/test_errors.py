"""The classes of refusals: how they stand to one another, and their field."""

import unittest

from fewbits.errors import BitsError, NoFit, NoLine, NoNumber, NoRow, NoWidth, TooMany

WITH_ROW = (NoLine, NoWidth, NoRow, NoFit, NoNumber)
ALL = WITH_ROW + (TooMany,)


class Errors(unittest.TestCase):
    def test_any_refusal_is_a_value_error(self):
        self.assertTrue(issubclass(BitsError, ValueError))

    def test_each_stands_under_bits_error(self):
        for kind in ALL:
            with self.subTest(kind=kind.__name__):
                self.assertTrue(issubclass(kind, BitsError))
                self.assertIsNot(kind, BitsError)

    def test_none_stands_under_another(self):
        for one in ALL:
            for other in ALL:
                if one is not other:
                    with self.subTest(one=one.__name__, other=other.__name__):
                        self.assertFalse(issubclass(one, other))

    def test_row_is_as_handed_in(self):
        for kind in WITH_ROW:
            for row in (0, 1, 7, 39, 40, 50, 2 ** 64):
                with self.subTest(kind=kind.__name__, row=row):
                    self.assertEqual(kind(row).row, row)
                    self.assertIs(type(kind(row).row), int)

    def test_row_is_each_object_s_own(self):
        for kind in WITH_ROW:
            with self.subTest(kind=kind.__name__):
                one = kind(3)
                other = kind(5)
                self.assertEqual((one.row, other.row), (3, 5))

    def test_row_is_the_object_s_and_not_the_class_s(self):
        for kind in WITH_ROW:
            with self.subTest(kind=kind.__name__):
                self.assertFalse(hasattr(kind, "row"))

    def test_too_many_has_no_row(self):
        self.assertFalse(hasattr(TooMany(), "row"))

    def test_they_are_taken_by_each_name_above_them(self):
        made = [kind(4) for kind in WITH_ROW] + [TooMany()]
        for error in made:
            for name in (type(error), BitsError, ValueError):
                with self.subTest(error=type(error).__name__, name=name.__name__):
                    with self.assertRaises(name) as taken:
                        raise error
                    self.assertIs(taken.exception, error)


if __name__ == "__main__":
    unittest.main()
