"""Points [2] and [7] to [10]: names, values, their order, next_value and up."""

import itertools
import unittest

from tests.helper import odd_things, some_test
from tworows.values import is_ahead, is_name, is_value, kind_of, next_value, up

SIGNS = "".join([chr(code) for code in range(32, 127) if chr(code) != "%"])
WORDS = ("and", "or", "not", "sure", "in", "is", "empty", "begins", "always", "never")
BIG = 10 ** 30


class KindTest(unittest.TestCase):
    def test_numbers(self):
        for number in (0, 1, -1, BIG - 1, 1 - BIG, BIG, BIG ** 40):
            self.assertEqual(kind_of(number), "number")
            self.assertIs(is_value("number", number), True)
            self.assertIs(is_value("text", number), False)

    def test_texts(self):
        self.assertEqual(len(SIGNS), 94)
        for text in ("", " ", "~", "a", "A b", '"\\', SIGNS, "x" * 40, "x" * 1000, *SIGNS):
            self.assertEqual(kind_of(text), "text")
            self.assertIs(is_value("text", text), True)
            self.assertIs(is_value("number", text), False)

    def test_a_text_with_one_other_sign_is_no_value(self):
        wrong = ["%", "\n", "\t", "\r", "\x00", "\x1f", "\x7f", "\x80", "\xa0", "\xe4", "\u20ac", "\ud800", "\U0001f600"]
        for sign in wrong:
            for text in (sign, sign + "a", "a" + sign, "a" + sign + "b"):
                self.assertIsNone(kind_of(text), ascii(text))
                self.assertIs(is_value("text", text), False)
                self.assertIs(is_value("number", text), False)

    def test_true_and_false_are_no_numbers(self):
        for flag in (True, False):
            self.assertIsNone(kind_of(flag))
            self.assertIs(is_value("number", flag), False)

    def test_everything_else_is_no_value(self):
        for thing in odd_things() + [some_test(), {}, {"a": 1}, [[1]], (1, 2)]:
            self.assertIsNone(kind_of(thing))
            self.assertIs(is_value("number", thing), False)
            self.assertIs(is_value("text", thing), False)


class NameTest(unittest.TestCase):
    def test_names(self):
        for name in ("a", "z", "a0", "z9", "ab", "abcdefgh", "a1234567", "zzzzzzzz"):
            self.assertIs(is_name(name), True, name)

    def test_lengths(self):
        for length in range(1, 9):
            self.assertIs(is_name("x" * length), True, length)
        for length in (0, 9, 10, 100000):
            self.assertIs(is_name("x" * length), False, length)

    def test_the_first_sign_is_a_letter(self):
        for name in ("1", "1a", "0abc", "12345678", "_a", " a"):
            self.assertIs(is_name(name), False, name)

    def test_only_small_letters_and_digits(self):
        for code in [*range(0, 300), 0x660, 0x3b1, 0x2070, 0xff41, 0xd800, 0x1d7d8]:
            sign = chr(code)
            good = sign in "abcdefghijklmnopqrstuvwxyz0123456789"
            self.assertIs(is_name("a" + sign), good, code)
            self.assertIs(is_name("a" + sign + "b"), good, code)
            self.assertIs(is_name(sign), good and not sign.isdigit(), code)

    def test_the_ten_words_are_no_names(self):
        for word in WORDS:
            self.assertIs(is_name(word), False, word)
            self.assertIs(is_name(word + "x"), True, word)
            self.assertIs(is_name(word + "1"), True, word)
            self.assertIs(is_name("x" + word), True, word)

    def test_other_words_of_the_program_are_names(self):
        for word in ("if", "none", "true", "false", "where", "key", "check", "up", "down", "text", "number"):
            self.assertIs(is_name(word), True, word)

    def test_everything_else_is_no_name(self):
        for thing in odd_things() + [some_test(), 1, {}, b"abc", ["a"]]:
            self.assertIs(is_name(thing), False)


class AheadTest(unittest.TestCase):
    def test_none_is_ahead_of_every_value(self):
        for value in (0, -BIG, BIG, "", " ", "~"):
            self.assertIs(is_ahead(None, value), True)
            self.assertIs(is_ahead(value, None), False)

    def test_nothing_is_ahead_of_itself(self):
        for place in (None, 0, -1, BIG, "", " ", "abc"):
            self.assertIs(is_ahead(place, place), False)

    def test_numbers(self):
        row = [-BIG, -10, -9, -1, 0, 1, 9, 10, BIG - 1, BIG]
        self.in_order(row)

    def test_texts(self):
        row = ["", " ", "  ", " !", "!", "10", "9", "A", "Z", "a", "a ", "a a", "aa", "ab", "b", "~", "~ ", "~~"]
        self.in_order(row)
        self.in_order(list(SIGNS))

    def in_order(self, row):
        for (i, one), (j, other) in itertools.product(enumerate(row), enumerate(row)):
            self.assertIs(is_ahead(one, other), i < j, (one, other))


class NextTest(unittest.TestCase):
    def test_the_next_number(self):
        for number in (-BIG, -2, -1, 0, 1, BIG - 1, BIG, 10 ** 100):
            self.assertEqual(next_value(number), number + 1)
        self.assertEqual(next_value(-1), 0)

    def test_the_next_text(self):
        for text in ("", " ", "a", "a ", "~", "x" * 40):
            self.assertEqual(next_value(text), text + " ")

    def test_no_text_lies_between(self):
        texts = ["".join(signs) for n in range(4) for signs in itertools.product(" !a~", repeat=n)]
        for text in texts:
            between = [other for other in texts if text < other < next_value(text)]
            self.assertEqual(between, [], text)

    def test_the_kind_stays(self):
        self.assertEqual(kind_of(next_value("")), "text")
        self.assertEqual(kind_of(next_value(-1)), "number")


class UpTest(unittest.TestCase):
    def test_the_last_sign_becomes_the_next_one(self):
        for sign, following in zip(SIGNS, SIGNS[1:]):
            self.assertEqual(up(sign), following)
            self.assertEqual(up("ab" + sign), "ab" + following)

    def test_the_percent_sign_is_left_out(self):
        self.assertEqual(up("$"), "&")
        self.assertEqual(up("a$"), "a&")

    def test_what_stands_behind_is_removed(self):
        self.assertEqual(up("a~"), "b")
        self.assertEqual(up("a~~~"), "b")
        self.assertEqual(up("ab~"), "ac")
        self.assertEqual(up("~a~"), "~b")
        self.assertEqual(up("~a"), "~b")
        self.assertEqual(up("}~"), "~")
        self.assertEqual(up("a~b"), "a~c")
        self.assertEqual(up("$~"), "&")

    def test_none_where_nothing_is_greater(self):
        for text in ("", "~", "~~", "~" * 40):
            self.assertIsNone(up(text))

    def test_it_tells_which_texts_begin_with_a_text(self):
        texts = ["".join(signs) for n in range(4) for signs in itertools.product(" $&}~", repeat=n)]
        for prefix in texts:
            end = up(prefix)
            for text in texts:
                within = text >= prefix and (end is None or text < end)
                self.assertIs(within, text.startswith(prefix), (prefix, text))


if __name__ == "__main__":
    unittest.main()
