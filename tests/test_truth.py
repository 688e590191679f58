"""Point [13]: the truth of a test at a row."""

import itertools
import unittest

from tests.helper import Refusals, odd_things, some_test
from tworows.errors import BadRow
from tworows.logic import against, always, among, begins, compare, empty, never, sure

TRUTHS = (True, False, None)
OPS = {
    "<": lambda one, other: one < other,
    "<=": lambda one, other: one <= other,
    "==": lambda one, other: one == other,
    "!=": lambda one, other: one != other,
    ">": lambda one, other: one > other,
    ">=": lambda one, other: one >= other,
}
NUMBERS = (-(10 ** 30), -2, -1, 0, 1, 2, 10 ** 30)
TEXTS = ("", " ", "A", "a", "a ", "ab", "b", "~")
# What the column has for compare("a", "==", 1) to have the truth.
PLACES = {True: 1, False: 2, None: None}


class TruthTest(unittest.TestCase, Refusals):
    def test_compare(self):
        for values in (NUMBERS, TEXTS):
            for (op, holds), one, other in itertools.product(OPS.items(), values, values):
                self.assertIs(compare("a", op, other).truth({"a": one}), holds(one, other), (one, op, other))

    def test_against(self):
        for values in (NUMBERS, TEXTS):
            for (op, holds), one, other in itertools.product(OPS.items(), values, values):
                self.assertIs(against("a", op, "b").truth({"a": one, "b": other}), holds(one, other))

    def test_against_with_more(self):
        for more in (-3, -1, 1, 2, 10 ** 29):
            for (op, holds), one, other in itertools.product(OPS.items(), NUMBERS, NUMBERS):
                truth = against("a", op, "b", more=more).truth({"a": one, "b": other})
                self.assertIs(truth, holds(one, other + more), (one, op, other, more))
        # The sum stands on the side of the second column.
        self.assertIs(against("a", "==", "b", more=2).truth({"a": 5, "b": 3}), True)
        self.assertIs(against("a", "==", "b", more=2).truth({"a": 3, "b": 5}), False)
        self.assertIs(against("b", "<", "a", more=-1).truth({"a": 3, "b": 2}), False)

    def test_among(self):
        test = among("a", [3, 1, 3])
        self.assertEqual([test.truth({"a": k}) for k in (0, 1, 2, 3, -3)], [False, True, False, True, False])
        test = among("a", ("", "x", "xy"))
        self.assertIs(test.truth({"a": ""}), True)
        self.assertIs(test.truth({"a": "xy"}), True)
        self.assertIs(test.truth({"a": "y"}), False)
        self.assertIs(test.truth({"a": " "}), False)
        self.assertIs(among("a", [7]).truth({"a": 7}), True)

    def test_begins(self):
        for prefix, text in itertools.product(TEXTS, TEXTS):
            self.assertIs(begins("a", prefix).truth({"a": text}), text[:len(prefix)] == prefix, (prefix, text))
        self.assertIs(begins("a", "bc").truth({"a": "abc"}), False)

    def test_empty_always_and_never(self):
        self.assertIs(empty("a").truth({"a": None}), True)
        for value in (0, 1, "", " ", "x"):
            self.assertIs(empty("a").truth({"a": value}), False)
        for row in ({}, {"a": None}, {"a": 1}):
            self.assertIs(always().truth(row), True)
            self.assertIs(never().truth(row), False)

    def test_an_empty_column_makes_the_truth_unknown(self):
        for op in OPS:
            self.assertIsNone(compare("a", op, 0).truth({"a": None}))
            self.assertIsNone(compare("a", op, "").truth({"a": None}))
            for one, other in [(None, 1), (1, None), (None, None), (None, ""), ("", None)]:
                self.assertIsNone(against("a", op, "b").truth({"a": one, "b": other}))
            for one, other in [(None, 1), (1, None), (None, None)]:
                self.assertIsNone(against("a", op, "b", more=1).truth({"a": one, "b": other}))
        self.assertIsNone(among("a", [1, 2]).truth({"a": None}))
        self.assertIsNone(begins("a", "").truth({"a": None}))

    def test_not_and_sure(self):
        one = compare("a", "==", 1)
        for truth in TRUTHS:
            row = {"a": PLACES[truth]}
            self.assertIs(one.truth(row), truth)
            self.assertIs((~one).truth(row), {True: False, False: True, None: None}[truth])
            self.assertIs(sure(one).truth(row), {True: True, False: False, None: False}[truth])
            self.assertIs((~sure(one)).truth(row), {True: False, False: True, None: True}[truth])
            self.assertIs(sure(~one).truth(row), {True: False, False: True, None: False}[truth])
            self.assertIs((~~one).truth(row), truth)

    def test_and_and_or(self):
        one, other = compare("a", "==", 1), compare("b", "==", 1)
        both = {
            (True, True): True, (True, False): False, (True, None): None,
            (False, True): False, (False, False): False, (False, None): False,
            (None, True): None, (None, False): False, (None, None): None,
        }
        either = {
            (True, True): True, (True, False): True, (True, None): True,
            (False, True): True, (False, False): False, (False, None): None,
            (None, True): True, (None, False): None, (None, None): None,
        }
        for pair in itertools.product(TRUTHS, TRUTHS):
            row = {"a": PLACES[pair[0]], "b": PLACES[pair[1]]}
            self.assertIs((one & other).truth(row), both[pair], pair)
            self.assertIs((one | other).truth(row), either[pair], pair)
            self.assertIs((~(one & other)).truth(row), (~one | ~other).truth(row))

    def test_a_nested_test(self):
        test = ~(compare("a", "<", 5) & empty("b")) | sure(against("a", "<", "c"))
        self.assertIs(test.truth({"a": 4, "b": None, "c": 5}), True)
        self.assertIs(test.truth({"a": 4, "b": None, "c": None}), False)
        self.assertIs(test.truth({"a": 4, "b": "x", "c": None}), True)
        self.assertIsNone(test.truth({"a": None, "b": None, "c": 1}))

    def test_further_keys_have_no_meaning(self):
        row = {"z": object(), "b": "x", 1: 2, None: None, ("a",): 3, "a": 0}
        self.assertIs(compare("a", "<", 1).truth(row), True)
        self.assertIs(always().truth(row), True)
        self.assertEqual(len(row), 6)

    def test_what_is_no_dict(self):
        for thing in odd_things() + ["a", 1, [("a", 1)], some_test()]:
            for test in (compare("a", "<", 1), always(), never(), empty("a"), always() & compare("a", "<", 1)):
                self.refused(BadRow, {"column": None}, test.truth, thing)

    def test_the_first_missing_name(self):
        test = (against("d", "<", "b") & empty("c")) | compare("a", "<", 1)
        full = {"a": 1, "b": 1, "c": 1, "d": 1}
        for count in range(1, 5):
            for missing in itertools.combinations("abcd", count):
                row = {name: full[name] for name in full if name not in missing}
                self.refused(BadRow, {"column": missing[0]}, test.truth, row)
        self.refused(BadRow, {"column": "a"}, test.truth, {})
        self.refused(BadRow, {"column": "a"}, compare("a", "<", 1).truth, {"A": 1, "b": 1, 0: 1})

    def test_a_missing_name_counts_where_the_truth_is_clear_without_it(self):
        self.refused(BadRow, {"column": "a"}, (never() & empty("a")).truth, {})
        self.refused(BadRow, {"column": "b"}, (empty("a") | empty("b")).truth, {"a": None})
        self.refused(BadRow, {"column": "b"}, against("a", "<", "b").truth, {"a": None})

    def test_the_row_stays_as_it_was(self):
        row = {"a": 1, "b": None, "further": [1]}
        test = (compare("a", "<", 1) | empty("b")) & ~against("a", "<", "b")
        self.assertIsNone(test.truth(row))
        self.assertEqual(row, {"a": 1, "b": None, "further": [1]})


if __name__ == "__main__":
    unittest.main()
