import unittest

from againbook.errors import BookError, NoCount, NoName, NoRow, NoStep, NoText, TooDeep, TooLong, Twice

REFUSALS = [NoText(3), Twice("a"), NoName("b"), NoCount("c"), TooLong(), TooDeep(), NoStep(), NoRow()]


class ErrorsTest(unittest.TestCase):
    def test_book_error_is_right_under_value_error(self):
        self.assertEqual(BookError.__bases__, (ValueError,))

    def test_each_refusal_is_right_under_book_error(self):
        for refusal in REFUSALS:
            with self.subTest(refusal=type(refusal).__name__):
                self.assertIsInstance(refusal, BookError)
                self.assertIsInstance(refusal, ValueError)
                self.assertEqual(type(refusal).__bases__, (BookError,))

    def test_no_refusal_is_one_of_the_others(self):
        for place, refusal in enumerate(REFUSALS):
            for other_place, other in enumerate(REFUSALS):
                with self.subTest(refusal=type(refusal).__name__, other=type(other).__name__):
                    self.assertEqual(isinstance(refusal, type(other)), place == other_place)

    def test_each_refusal_is_taken_as_a_book_error(self):
        for refusal in REFUSALS:
            with self.subTest(refusal=type(refusal).__name__):
                with self.assertRaises(BookError) as taken:
                    raise refusal
                self.assertIs(taken.exception, refusal)

    def test_no_text_has_its_line(self):
        for line in (1, 2, 20001):
            with self.subTest(line=line):
                self.assertEqual(NoText(line).line, line)
                self.assertEqual(NoText(line=line).line, line)

    def test_refusals_with_a_name_have_it(self):
        for refusal in (Twice, NoName, NoCount):
            for name in ("a", "abcdefgh"):
                with self.subTest(refusal=refusal.__name__, name=name):
                    self.assertEqual(refusal(name).name, name)
                    self.assertEqual(refusal(name=name).name, name)

    def test_two_of_one_class_keep_their_own_fields(self):
        first = NoText(1)
        second = NoText(2)
        self.assertEqual((first.line, second.line), (1, 2))


if __name__ == "__main__":
    unittest.main()
