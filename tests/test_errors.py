import unittest

from leastbook.errors import BookError, Loose, NoLabel, NoRow, NoStyle, TooHigh, TooWide, Twice

AT_BLOCK = [TooWide, TooHigh, Twice, Loose, NoLabel]
REFUSALS = AT_BLOCK + [NoStyle, NoRow]


class ErrorsTest(unittest.TestCase):
    def test_any_refusal_is_a_book_error_and_a_value_error(self):
        self.assertTrue(issubclass(BookError, ValueError))
        for refusal in REFUSALS:
            with self.subTest(refusal=refusal.__name__):
                self.assertTrue(issubclass(refusal, BookError))
                self.assertIsNot(refusal, BookError)

    def test_no_refusal_stands_beneath_another(self):
        for one in REFUSALS:
            for other in REFUSALS:
                if one is not other:
                    with self.subTest(one=one.__name__, other=other.__name__):
                        self.assertFalse(issubclass(one, other))

    def test_refusals_at_a_block_are_made_with_its_number(self):
        for refusal in AT_BLOCK:
            for number in (0, 1, 79):
                with self.subTest(refusal=refusal.__name__, number=number):
                    self.assertEqual(refusal(number).block, number)

    def test_each_object_has_its_own_number(self):
        for refusal in AT_BLOCK:
            one, other = refusal(3), refusal(4)
            self.assertEqual((one.block, other.block), (3, 4))

    def test_no_row_is_made_with_a_rows_number(self):
        for number in (0, 1, 300):
            self.assertEqual(NoRow(number).row, number)


if __name__ == "__main__":
    unittest.main()
