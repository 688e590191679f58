"""Point [11]: the makers of atomic tests and the order in which they refuse."""

import unittest

from tests.helper import Refusals, nested_list, odd_things, some_test
from tworows.errors import BadTest
from tworows.logic import Test, against, always, among, begins, compare, empty, never

OPS = ("<", "<=", "==", "!=", ">", ">=")
BIG = 10 ** 30 - 1


def wrong_names():
    """Things that are no names."""
    words = ["", "A", "1", "1a", "a_", "a b", "ninechars", "and", "or", "not", "sure", "in", "is"]
    words += ["empty", "begins", "always", "never", "a%", "a\n", "\xe4", "\u0661"]
    return words + odd_things() + [some_test(), 1, {}]


def wrong_ops():
    """Things that are no operators."""
    words = ["", "=", "<>", "=<", "=>", "===", " <", "< ", "<\n", "in", "is", "and", "!", "~"]
    return words + odd_things() + [some_test(), 1, {}, ["<"], ("<",), OPS]


def wrong_values():
    """Things that are neither a number nor a text."""
    return ["%", "a%b", "\n", "a\n", "\t", "\x7f", "\xe4", "\ud800"] + odd_things() + [some_test(), {}, [1], (1,)]


class MakersTest(unittest.TestCase, Refusals):
    def bad(self, why, call, *given, **named):
        self.refused(BadTest, {"why": why}, call, *given, **named)

    def test_ordinary_tests(self):
        made = [
            compare("a", "<", 1), against("a", "<", "b"), among("a", [1]), begins("a", "x"), empty("a"), always(), never(),
        ]
        kinds = ["compare", "against", "among", "begins", "empty", "always", "never"]
        self.assertEqual([test.kind() for test in made], kinds)
        for test in made:
            self.assertIs(type(test), Test)

    def test_each_operator(self):
        for op in OPS:
            self.assertEqual(str(compare("a", op, 5)), f"a {op} 5")
            self.assertEqual(str(against("a", op, "b")), f"a {op} b")

    def test_edges_of_names_values_and_more(self):
        for name in ("a", "z9", "abcdefgh", "a1234567", "andx", "in1"):
            self.assertEqual(compare(name, "<", 1).names(), [name])
            self.assertEqual(against(name, "<", "other").names(), sorted([name, "other"]))
            self.assertEqual(against("other", "<", name).names(), sorted([name, "other"]))
            self.assertEqual(among(name, (1,)).names(), [name])
            self.assertEqual(begins(name, "").names(), [name])
            self.assertEqual(empty(name).names(), [name])
        for value in (0, -1, BIG, -BIG, BIG + 1, "", " ", "~" * 40, "x" * 100, '"\\'):
            compare("a", "==", value)
            among("a", [value])
        for more in (0, 1, -1, BIG, -BIG, BIG * BIG):
            against("a", "<", "b", more=more)
        for prefix in ("", " ", "~", "x" * 50):
            begins("a", prefix)

    def test_the_default_of_more_is_0(self):
        self.assertEqual(against("a", "<", "b"), against("a", "<", "b", more=0))

    def test_more_is_passed_by_keyword(self):
        with self.assertRaises(TypeError):
            against("a", "<", "b", 1)

    def test_wrong_columns(self):
        for thing in wrong_names():
            self.bad("column", compare, thing, "<", 1)
            self.bad("column", against, thing, "<", "b")
            self.bad("column", among, thing, [1])
            self.bad("column", begins, thing, "x")
            self.bad("column", empty, thing)
            self.bad("column", against, "a", "<", thing)

    def test_wrong_operators(self):
        for thing in wrong_ops():
            self.bad("op", compare, "a", thing, 1)
            self.bad("op", against, "a", thing, "b")

    def test_wrong_values(self):
        for thing in wrong_values():
            self.bad("value", compare, "a", "<", thing)
            self.bad("value", among, "a", [thing])
            self.bad("value", among, "a", (1, "x", thing))
            self.bad("value", begins, "a", thing)
        for number in (0, 1, -5):
            self.bad("value", begins, "a", number)

    def test_wrong_sequences_of_values(self):
        for thing in [None, True, 1, "", "abc", {}, {1: 1}, {1}, frozenset([1]), b"ab", range(2), iter([1]), some_test(), int]:
            self.bad("value", among, "a", thing)
        self.bad("value", among, "a", nested_list(100000))

    def test_numbers_of_values(self):
        for kind in (list, tuple):
            self.bad("value", among, "a", kind())
            self.bad("value", among, "a", kind([5] * 9))
            self.bad("value", among, "a", kind([5] * 1000))
            for many in range(1, 9):
                test = among("a", kind([5] * many))
                self.assertEqual(str(test), "a in (" + ", ".join(["5"] * many) + ")")

    def test_values_keep_their_order_and_repeat(self):
        self.assertEqual(str(among("a", [3, 1, 3, 2])), "a in (3, 1, 3, 2)")
        self.assertEqual(str(among("a", ("b", "", "b"))), 'a in ("b", "", "b")')

    def test_a_list_and_a_tuple_of_values_are_the_same(self):
        self.assertEqual(among("a", [1, 2]), among("a", (1, 2)))

    def test_the_list_of_values_is_not_kept(self):
        values = [3, 1, 2]
        test = among("a", values)
        self.assertEqual(values, [3, 1, 2])
        values[0] = 9
        values.append(7)
        self.assertEqual(str(test), "a in (3, 1, 2)")
        self.assertIs(test.truth({"a": 3}), True)
        self.assertIs(test.truth({"a": 7}), False)
        values.clear()
        self.assertEqual(test, among("a", (3, 1, 2)))

    def test_a_refused_list_of_values_stays(self):
        values = [3, None, 2]
        self.bad("value", among, "a", values)
        self.assertEqual(values, [3, None, 2])

    def test_the_two_columns_differ(self):
        for op in OPS:
            self.bad("column", against, "a", op, "a")
            self.bad("column", against, "abcdefgh", op, "abcdefgh", more=1)

    def test_wrong_more(self):
        for thing in odd_things() + ["", "1", {}, some_test(), "x"]:
            self.bad("more", against, "a", "<", "b", more=thing)
        self.bad("more", against, "a", "<", "b", more=True)
        self.bad("more", against, "a", "<", "b", more=False)

    def test_the_first_fault_from_left_to_right_decides(self):
        self.bad("column", compare, "A", "?", None)
        self.bad("column", compare, "A", "<", None)
        self.bad("column", compare, "A", "?", 1)
        self.bad("op", compare, "a", "?", None)
        self.bad("value", compare, "a", "<", None)
        self.bad("column", against, "A", "?", "B", more=None)
        self.bad("op", against, "a", "?", "B", more=None)
        self.bad("op", against, "a", "?", "a", more=None)
        self.bad("op", against, "a", "?", "b", more=None)
        self.bad("column", against, "a", "<", "B", more=None)
        self.bad("column", against, "a", "<", "a", more=None)
        self.bad("more", against, "a", "<", "b", more=None)
        self.bad("column", among, "A", None)
        self.bad("column", among, "A", [])
        self.bad("value", among, "a", None)
        self.bad("column", begins, "A", 1)
        self.bad("value", begins, "a", 1)


if __name__ == "__main__":
    unittest.main()
