import unittest

from againbook.words import TOP, is_name, is_number

RESERVED = ["def", "set", "read", "write", "call", "if", "else", "while", "give", "end"]


class TopTest(unittest.TestCase):
    def test_top(self):
        self.assertEqual(TOP, 10 ** 18)
        self.assertIs(type(TOP), int)


class NameTest(unittest.TestCase):
    def tells(self, expected, texts):
        for text in texts:
            with self.subTest(text=text):
                self.assertIs(is_name(text), expected)
                self.assertIs(is_name(text), expected)

    def test_each_small_letter_is_one(self):
        self.tells(True, list("abcdefghijklmnopqrstuvwxyz"))

    def test_one_to_eight_letters(self):
        self.tells(True, ["abcdefgh"[:count] for count in range(1, 9)])
        self.tells(True, ["zzzzzzzz", "stuvwxyz", "az", "main"])

    def test_no_letters_and_nine(self):
        self.tells(False, ["", "abcdefghi", "aaaaaaaaa", "a" * 100])

    def test_great_letters(self):
        self.tells(False, ["A", "Z", "aB", "Ab", "abcDefgh", "DEF", "End"])

    def test_figures(self):
        self.tells(False, ["0", "9", "a1", "1a", "a1b", "abcdefg8"])

    def test_every_other_sign_beside_and_alone(self):
        small = "abcdefghijklmnopqrstuvwxyz"
        others = [chr(code) for code in range(32, 127) if chr(code) not in small] + ["\n", "\t", "\r"]
        for sign in others:
            self.tells(False, [sign, sign + "ab", "ab" + sign, "a" + sign + "b"])

    def test_letters_of_other_scripts(self):
        self.tells(False, ["\u00e4", "a\u00df", "\u03b1", "\uff41"])

    def test_reserved_words(self):
        self.tells(False, RESERVED)

    def test_reserved_words_with_a_letter_more_or_fewer(self):
        for word in RESERVED:
            self.tells(True, [word + "s", "x" + word, word[1:], word[:-1]])


class NumberTest(unittest.TestCase):
    def tells(self, expected, texts):
        for text in texts:
            with self.subTest(text=text):
                self.assertIs(is_number(text), expected)
                self.assertIs(is_number(text), expected)

    def test_one_figure(self):
        self.tells(True, list("0123456789"))

    def test_one_to_eighteen_figures(self):
        self.tells(True, ["123456789012345678"[:count] for count in range(1, 19)])
        self.tells(True, ["9" * 18, "1" + "0" * 17, "10", "100", "907"])

    def test_no_figures_and_nineteen(self):
        self.tells(False, ["", "1" * 19, "1" + "0" * 18, "9" * 100])

    def test_zero_ahead_of_others(self):
        self.tells(False, ["00", "01", "007", "0" * 18, "0" + "1" * 17])

    def test_every_other_sign_beside_and_alone(self):
        others = [chr(code) for code in range(32, 127) if chr(code) not in "0123456789"] + ["\n", "\t", "\r"]
        for sign in others:
            self.tells(False, [sign, sign + "12", "12" + sign, "1" + sign + "2", "0" + sign])

    def test_forms_that_python_reads_as_ints(self):
        self.tells(False, ["-1", "+1", "-0", "1.0", "1_000", " 1", "1 ", "1\n", "\n1", "0x1", "1e3"])

    def test_figures_of_other_scripts(self):
        self.tells(False, ["\u0661", "1\u0662", "\u00b2", "\uff11"])


if __name__ == "__main__":
    unittest.main()
