"""Point [15]: equal forms, and the same test with other column names."""

import itertools
import unittest

from tests.helper import Refusals, odd_things
from tworows.errors import BadTest
from tworows.logic import against, always, among, begins, compare, empty, never, sure


def unlike_tests():
    """Tests of which no two have the same form."""
    a, b = compare("a", "<", 1), compare("b", "<", 1)
    return [
        a, b, compare("a", "<=", 1), compare("a", "<", 2), compare("a", "<", "1"), compare("a", ">", 1),
        compare("a", "==", 1), compare("a", "==", ""), among("a", [1]), among("a", ["1"]), among("a", [1, 1]),
        among("a", [1, 2]), among("a", [2, 1]), among("b", [1]), begins("a", ""), begins("a", "1"), begins("b", ""),
        against("a", "<", "b"), against("b", "<", "a"), against("a", ">", "b"), against("a", "<", "c"),
        against("a", "<", "b", more=1), against("a", "<", "b", more=-1), empty("a"), empty("b"), always(), never(),
        a & b, b & a, a | b, a & a, (a & b) & a, a & (b & a), ~a, ~~a, ~b, sure(a), sure(sure(a)), ~sure(a), sure(~a),
        ~~~~a, (a | b) | a, a | (b | a), (a & b) | a, a & (b | a), a & always(), always() & a,
    ]


class EqualityTest(unittest.TestCase):
    def test_equal_and_unequal_forms(self):
        for (i, one), (j, other) in itertools.product(enumerate(unlike_tests()), enumerate(unlike_tests())):
            self.assertIs(one == other, i == j, (str(one), str(other)))
            self.assertIs(one != other, i != j, (str(one), str(other)))

    def test_the_default_of_more_is_the_same_form(self):
        self.assertIs(against("a", "<", "b") == against("a", "<", "b", more=0), True)

    def test_a_test_equals_nothing_else(self):
        for thing in odd_things() + ["a < 1", 1, {}, "always", ("a", "<", 1)]:
            for test in (compare("a", "<", 1), always(), ~empty("a")):
                self.assertIs(test == thing, False)
                self.assertIs(test != thing, True)
                self.assertIs(thing == test, False)
                self.assertIs(thing != test, True)

    def test_a_test_does_not_ask_the_other_thing(self):
        class Yes:
            def __eq__(self, other):
                return True

        self.assertIs(always() == Yes(), False)
        self.assertIs(always() != Yes(), True)


class RenamedTest(unittest.TestCase, Refusals):
    def bad(self, test, mapping):
        self.refused(BadTest, {"why": "column"}, test.renamed, mapping)

    def test_each_kind_of_test(self):
        mapping = {"a": "x", "b": "y"}
        a, x = compare("a", "<", 1), compare("x", "<", 1)
        for test, other in [
            (a, x),
            (compare("a", ">=", "t"), compare("x", ">=", "t")),
            (against("a", "<=", "b", more=-3), against("x", "<=", "y", more=-3)),
            (against("b", "!=", "c", more=4), against("y", "!=", "c", more=4)),
            (against("c", "!=", "b"), against("c", "!=", "y")),
            (among("b", [3, 1, 3]), among("y", [3, 1, 3])),
            (begins("a", "a"), begins("x", "a")),
            (compare("a", "==", "a"), compare("x", "==", "a")),
            (empty("b"), empty("y")),
            (empty("c"), empty("c")),
            (always(), always()),
            (never(), never()),
            (a & empty("b"), x & empty("y")),
            (a | empty("b"), x | empty("y")),
            (~a, ~x),
            (sure(a), sure(x)),
            (~(sure(a) | (empty("b") & a)) & never(), ~(sure(x) | (empty("y") & x)) & never()),
        ]:
            text = str(test)
            self.assertEqual(test.renamed(mapping), other)
            self.assertEqual(str(test.renamed(mapping)), str(other))
            self.assertEqual(test.renamed(mapping).names(), other.names())
            self.assertEqual(test.renamed(mapping).levels(), test.levels())
            self.assertEqual(str(test), text)
        self.assertEqual(mapping, {"a": "x", "b": "y"})

    def test_names_change_places_at_once(self):
        test = against("a", "<", "b", more=1) & empty("c")
        self.assertEqual(test.renamed({"a": "b", "b": "a"}), against("b", "<", "a", more=1) & empty("c"))
        self.assertEqual(test.renamed({"a": "b", "b": "c", "c": "a"}), against("b", "<", "c", more=1) & empty("a"))

    def test_columns_of_several_atoms_may_become_one(self):
        test = empty("a") & empty("b")
        self.assertEqual(test.renamed({"a": "b"}), empty("b") & empty("b"))

    def test_names_that_are_not_in_the_test_have_no_meaning(self):
        test = compare("a", "<", 1)
        for mapping in ({}, {"b": "c"}, {"b": 5, "c": None, "d": []}, {1: "x", None: 2, ("a",): "q", "A": ""}, {"a": "a"}):
            self.assertEqual(test.renamed(mapping), test)
        self.assertEqual(always().renamed({"a": 1}), always())
        self.assertEqual(against("a", "<", "b").renamed({"c": "a"}), against("a", "<", "b"))

    def test_new_names_of_every_length(self):
        for name in ("z", "abcdefgh", "a1234567"):
            self.assertEqual(compare("a", "<", 1).renamed({"a": name}), compare(name, "<", 1))

    def test_a_mapping_that_is_no_dict(self):
        for thing in odd_things() + [[("a", "b")], "ab", 1, always()]:
            for test in (compare("a", "<", 1), always(), never() & empty("a")):
                self.bad(test, thing)

    def test_a_new_name_that_is_no_name(self):
        for thing in odd_things() + ["", "A", "ninechars", "and", "never", "a b", "1", always(), {}, 1]:
            for test in (compare("a", "<", 1), against("b", "<", "a"), against("a", "<", "b"), ~(empty("b") | empty("a"))):
                self.bad(test, {"a": thing})
                self.bad(test, {"b": "c", "a": thing})

    def test_an_against_that_would_get_the_same_column_twice(self):
        test = against("a", "<", "b")
        self.bad(test, {"a": "b"})
        self.bad(test, {"b": "a"})
        self.bad(test, {"a": "c", "b": "c"})
        self.bad(test, {"a": "c", "b": "c", "c": "d"})
        self.bad(~(empty("a") & test), {"a": "b"})
        self.bad(sure(test) | always(), {"b": "a"})

    def test_the_mapping_is_not_kept(self):
        mapping = {"a": "x"}
        test = (compare("a", "<", 1) | empty("b")).renamed(mapping)
        mapping["a"] = "y"
        mapping["b"] = "z"
        self.assertEqual(str(test), "x < 1 or b is empty")

    def test_a_refused_mapping_changes_nothing(self):
        test = empty("b") & against("a", "<", "b")
        mapping = {"a": "c", "b": "c"}
        self.bad(test, mapping)
        self.assertEqual(str(test), "b is empty and a < b")
        self.assertEqual(mapping, {"a": "c", "b": "c"})

    def test_the_largest_and_the_deepest_test(self):
        one = against("a", "<", "b")
        four = (one & one) | (one & one)
        test = (four & four & four) & (four & four & four)
        self.assertEqual(len(test.renamed({"a": "c"}).atoms()), 24)
        self.assertEqual(test.renamed({"a": "c"}).names(), ["b", "c"])
        for _ in range(12 - test.levels()):
            test = ~test
        self.assertEqual(test.levels(), 12)
        self.assertEqual(test.renamed({"a": "c"}).renamed({"c": "a"}), test)


if __name__ == "__main__":
    unittest.main()
