import unittest

from shuffletold.errors import NoRow, NoText, OrderError


class Refusals(unittest.TestCase):
    def test_order_error_stands_straight_under_value_error(self):
        self.assertEqual(OrderError.__bases__, (ValueError,))

    def test_each_refusal_stands_straight_under_order_error(self):
        for refusal in (NoText, NoRow):
            self.assertEqual(refusal.__bases__, (OrderError,))

    def test_none_stands_under_another(self):
        self.assertFalse(issubclass(NoText, NoRow))
        self.assertFalse(issubclass(NoRow, NoText))

    def test_no_text_is_made_without_anything(self):
        self.assertIsInstance(NoText(), OrderError)

    def test_no_row_has_its_row_when_made(self):
        for row in (0, 1, 7, 10 ** 30):
            self.assertEqual(NoRow(row).row, row)

    def test_each_no_row_has_a_row_of_its_own(self):
        one, other = NoRow(3), NoRow(5)
        self.assertEqual((one.row, other.row), (3, 5))

    def test_taken_by_its_own_name(self):
        with self.assertRaises(NoText):
            raise NoText()
        with self.assertRaises(NoRow) as taken:
            raise NoRow(4)
        self.assertEqual(taken.exception.row, 4)

    def test_taken_as_order_error_and_as_value_error(self):
        for above in (OrderError, ValueError):
            with self.assertRaises(above):
                raise NoText()
            with self.assertRaises(above):
                raise NoRow(0)


if __name__ == "__main__":
    unittest.main()
