"""Promises [12] and [13]: integers, names, and the words of texts."""

import unittest

from odd_values import no_counts, no_integers, no_names, odd_integers, odd_values
from pileups.words import is_count, is_integer, is_name, parse_integer, split_words, written


class TestKinds(unittest.TestCase):
    def test_integers(self):
        for value in odd_integers():
            self.assertIs(is_integer(value), True)
        for value in no_integers():
            self.assertIs(is_integer(value), False)

    def test_counts(self):
        for value in odd_integers():
            self.assertIs(is_count(value), value >= 0)
        for value in no_counts():
            self.assertIs(is_count(value), False)

    def test_names(self):
        for value in ["a", "z", "m", "load", "abcdefgh", "zzzzzzzz", "events", "tie", "limit", "none"]:
            self.assertIs(is_name(value), True)
        for value in no_names():
            self.assertIs(is_name(value), False)

    def test_each_letter_of_a_name_is_looked_at(self):
        for letter in "abcdefghijklmnopqrstuvwxyz":
            self.assertIs(is_name(letter), True)
        for wrong in "AZ09 _-`{[@;.\n~" + "\u00e9\u0131":
            for text in [wrong, wrong + "a", "a" + wrong, "a" + wrong + "a"]:
                self.assertIs(is_name(text), False)

    def test_lengths_of_names(self):
        self.assertEqual([is_name("a" * length) for length in range(11)], [False] + [True] * 8 + [False] * 2)

    def test_parameter_names(self):
        self.assertEqual([is_integer(value=1), is_count(value=1), is_name(value="a")], [True, True, True])


class TestParseInteger(unittest.TestCase):
    def test_example(self):
        found = [parse_integer("-12"), parse_integer("012"), parse_integer("7", low=8)]
        self.assertEqual(found + [split_words("tie a b"), split_words("a  b")],
                         [-12, None, None, ["tie", "a", "b"], None])

    def test_each_integer_is_read_from_its_text(self):
        for number in list(range(-120, 121)) + [10 ** 29, 10 ** 30 - 1, 1 - 10 ** 30]:
            self.assertEqual(parse_integer(str(number)), number)
        self.assertEqual(parse_integer(text="10203"), 10203)

    def test_what_is_no_decimal_notation(self):
        wrong = ["-0", "00", "-00", "007", "-07", "01", "+5", "+0", "", "-", "--1", "1-", "-1-", "- 1", "+", "1.0",
                 "1e3", "1_0", "0x1", "0b1", " 1", "1 ", "1\n", "\n1", "1 2", "a", "1a", "a1", "\u0661",
                 "\u00b2", "\uff11", "None", "True"]
        for text in wrong:
            with self.subTest(text):
                self.assertIsNone(parse_integer(text))

    def test_thirty_digits_and_one_more(self):
        for sign in ["", "-"]:
            self.assertEqual(parse_integer(sign + "9" * 30), int(sign + "9" * 30))
            self.assertEqual(parse_integer(sign + "1" + "0" * 29), int(sign + "1" + "0" * 29))
            self.assertIsNone(parse_integer(sign + "9" * 31))
            self.assertIsNone(parse_integer(sign + "1" + "0" * 30))
        self.assertIsNone(parse_integer("0" * 30))
        self.assertIsNone(parse_integer("1" * 4000))

    def test_what_is_no_string(self):
        for value in odd_values() + odd_integers():
            self.assertIsNone(parse_integer(value))

    def test_zero_is_an_integer_and_not_none(self):
        self.assertEqual(parse_integer("0"), 0)
        self.assertIsNot(parse_integer("0"), False)

    def test_bounds(self):
        texts = [str(number) for number in range(-3, 4)]
        self.assertEqual([parse_integer(text, low=0) for text in texts], [None, None, None, 0, 1, 2, 3])
        self.assertEqual([parse_integer(text, high=0) for text in texts], [-3, -2, -1, 0, None, None, None])
        self.assertEqual([parse_integer(text, low=-1, high=1) for text in texts],
                         [None, None, -1, 0, 1, None, None])
        self.assertEqual([parse_integer(text, low=1, high=-1) for text in texts], [None] * 7)
        self.assertEqual([parse_integer(text, low=None, high=None) for text in texts], list(range(-3, 4)))
        self.assertEqual([parse_integer("5", low=5), parse_integer("5", high=5)], [5, 5])

    def test_bounds_are_passed_by_name(self):
        with self.assertRaises(TypeError):
            parse_integer("5", 1)


class TestWritten(unittest.TestCase):
    def test_short_integers(self):
        numbers = [0, 1, -1, 10, -10, 999999999, 10 ** 9, -(10 ** 9), 10 ** 9 + 1, 10 ** 18, 10 ** 18 + 10 ** 9]
        for number in numbers + odd_integers() + list(range(-1200, 1200)):
            self.assertEqual(written(number), str(number))

    def test_integers_that_str_refuses(self):
        self.assertEqual(written(10 ** 5000), "1" + "0" * 5000)
        self.assertEqual(written(-(10 ** 5000 - 1)), "-" + "9" * 5000)
        self.assertEqual(written(12 * 10 ** 4999 + 345), "12" + "0" * 4996 + "345")


class TestSplitWords(unittest.TestCase):
    def test_words(self):
        self.assertEqual(split_words("a"), ["a"])
        self.assertEqual(split_words("tie a b 0"), ["tie", "a", "b", "0"])
        self.assertEqual(split_words(text="A; -1 ~"), ["A;", "-1", "~"])

    def test_only_single_spaces_part_words(self):
        self.assertEqual(split_words("a\nb c\n"), ["a\nb", "c\n"])
        self.assertEqual(split_words("\n"), ["\n"])

    def test_empty_parts(self):
        for text in ["", " ", "  ", " a", "a ", "a  b", " a b", "a b ", "a b  c", "a   b"]:
            with self.subTest(text):
                self.assertIsNone(split_words(text))

    def test_what_is_no_string(self):
        for value in odd_values() + odd_integers():
            self.assertIsNone(split_words(value))

    def test_each_call_returns_a_new_list(self):
        words = split_words("a b")
        words.append("c")
        self.assertEqual(split_words("a b"), ["a", "b"])


if __name__ == "__main__":
    unittest.main()
