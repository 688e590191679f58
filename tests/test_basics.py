"""Points [16] to [18]: the basic atoms of a test, their order, and their truths."""

import itertools
import unittest

from tests.helper import formula_truth, joined
from tworows.basics import basic_truth, basics, formula
from tworows.logic import against, always, among, begins, compare, empty, never, sure

OPS = ("<", "<=", "==", "!=", ">", ">=")


def texts():
    """All texts of up to three of four signs: the least, two in a row, the greatest."""
    return ["".join(signs) for many in range(4) for signs in itertools.product(" ab~", repeat=many)]


class FormulaTest(unittest.TestCase):
    def test_compare(self):
        for value, more in [(5, 6), (-1, 0), (10 ** 40, 10 ** 40 + 1), ("", " "), ("x ", "x  "), ("~", "~ ")]:
            least, most = ("below", "c", value), ("below", "c", more)
            expected = {"<": [least], "<=": [most], ">": [most], ">=": [least], "==": [least, most], "!=": [least, most]}
            for op in OPS:
                self.assertEqual(basics(compare("c", op, value)), expected[op], (op, value))

    def test_against_for_numbers(self):
        for more in (-7, -1, 0, 1, 10 ** 40):
            least, most = ("under", "c", "d", more), ("under", "c", "d", more + 1)
            expected = {"<": [least], "<=": [most], ">": [most], ">=": [least], "==": [least, most], "!=": [least, most]}
            for op in OPS:
                self.assertEqual(basics(against("c", op, "d", more=more)), expected[op], (op, more))

    def test_the_columns_of_against_keep_their_places(self):
        self.assertEqual(basics(against("d", "<", "c")), [("under", "d", "c", 0)])
        self.assertEqual(basics(against("d", ">", "c")), [("under", "d", "c", 1)])

    def test_among(self):
        self.assertEqual(basics(among("c", [4])), [("below", "c", 4), ("below", "c", 5)])
        self.assertEqual(basics(among("c", [7, 4, 7])), [("below", "c", value) for value in (4, 5, 7, 8)])
        self.assertEqual(basics(among("c", [5, 4, 6])), [("below", "c", value) for value in (4, 5, 6, 7)])
        self.assertEqual(basics(among("c", ["b", "a", "b "])), [("below", "c", value) for value in ("a", "a ", "b", "b ", "b  ")])
        self.assertEqual(basics(among("c", ["5", 5, ""])), [("below", "c", value) for value in (5, 6, "", " ", "5", "5 ")])

    def test_begins(self):
        for prefix, found in [
            ("", [""]), ("~", ["~"]), ("~~~", ["~~~"]), ("a", ["a", "b"]), ("a~~", ["a~~", "b"]), ("a ", ["a ", "a!"]),
            ("~a~", ["~a~", "~b"]), ("$", ["$", "&"]), ("}", ["}", "~"]),
        ]:
            self.assertEqual(basics(begins("c", prefix)), [("below", "c", value) for value in found], prefix)

    def test_the_other_atomic_tests(self):
        self.assertEqual(basics(empty("c")), [("empty", "c")])
        self.assertEqual(basics(always()), [])
        self.assertEqual(basics(never()), [])
        self.assertEqual(basics(~always() & sure(never())), [])

    def test_combined_tests(self):
        one, other = compare("c", "==", 1), against("c", "!=", "d")
        atoms = [("below", "c", 1), ("below", "c", 2), ("under", "c", "d", 0), ("under", "c", "d", 1)]
        for test in (one & other, other | one, ~(one & ~other), sure(other) & one & always()):
            self.assertEqual(basics(test), atoms)


class OrderTest(unittest.TestCase):
    def test_by_form_column_and_the_rest(self):
        tests = [
            compare("a", "<", -3), compare("a", "<", 20), compare("a", "<", ""), compare("a", "<", "1"),
            compare("a", "<", "9"), compare("b", "<", 100), compare("b", "<", "0"), compare("b1", "<", 7), empty("a"),
            empty("b"), against("a", "<", "b", more=-2), against("a", "<", "b", more=10), against("a", "<", "c", more=-5),
            against("b", "<", "a", more=-9),
        ]
        atoms = [basics(test)[0] for test in tests]
        for start in range(len(tests)):
            for turned in (tests[start:] + tests[:start], tests[start::-1] + tests[:start:-1]):
                self.assertEqual(basics(joined(turned)), atoms)

    def test_numbers_as_integers_and_texts_as_strings(self):
        values = [9, 10, -10, -9, "9", "10", "Z", "a", ""]
        tests = [compare("c", "<", value) for value in values]
        self.assertEqual([atom[2] for atom in basics(joined(tests))], [-10, -9, 9, 10, "", "10", "9", "Z", "a"])

    def test_each_once(self):
        one = compare("c", "<", 5)
        test = (one | compare("c", ">=", 5)) & (compare("c", "<=", 4) | sure(one)) & ~one
        self.assertEqual(basics(test), [("below", "c", 5)])
        either = against("c", "<", "d", more=3) | against("c", "<=", "d", more=2)
        self.assertEqual(basics(either), [("under", "c", "d", 3)])

    def test_the_list_may_be_changed(self):
        test = compare("c", "==", 1)
        found = basics(test)
        found.append(1)
        found[0] = None
        self.assertEqual(basics(test), [("below", "c", 1), ("below", "c", 2)])
        self.assertIsInstance(found, list)
        self.assertIsNot(basics(test), basics(test))

    def test_the_atoms_are_tuples(self):
        for atom in basics(among("c", [1, "a"]) & against("c", "<", "d") & empty("c")):
            self.assertIs(type(atom), tuple)


class TruthTest(unittest.TestCase):
    def test_below(self):
        for value, held, truth in [
            (5, 4, True), (5, 5, False), (5, 6, False), (5, None, None), (-5, -6, True), (10 ** 30, 10 ** 30 - 1, True),
            ("b", "a", True), ("b", "b", False), ("b", "b ", False), ("b", "B~", True), ("b", None, None), ("", "", False),
        ]:
            self.assertIs(basic_truth(("below", "c", value), {"c": held, "d": 1}), truth, (value, held))

    def test_under_for_numbers(self):
        for more, held, other, truth in [
            (0, 4, 5, True), (0, 5, 5, False), (1, 5, 5, True), (1, 6, 5, False), (-3, 1, 5, True), (-3, 2, 5, False),
            (10 ** 30, 10 ** 30, 1, True), (10 ** 30, 10 ** 30, 0, False),
        ]:
            self.assertIs(basic_truth(("under", "c", "d", more), {"c": held, "d": other}), truth)

    def test_under_for_texts(self):
        for more, held, other, truth in [
            (0, "a", "b", True), (0, "b", "b", False), (0, "b ", "b", False), (1, "a", "b", True), (1, "b", "b", True),
            (1, "b ", "b", False), (1, "", "", True), (0, "", "", False), (0, "", " ", True),
        ]:
            self.assertIs(basic_truth(("under", "c", "d", more), {"c": held, "d": other}), truth)

    def test_under_with_empty_places(self):
        for more, held, other in [(0, None, 1), (1, 1, None), (0, None, None), (0, None, "a"), (1, "a", None)]:
            self.assertIs(basic_truth(("under", "c", "d", more), {"c": held, "d": other}), None)

    def test_empty(self):
        for held, truth in [(None, True), (0, False), ("", False), (7, False)]:
            self.assertIs(basic_truth(("empty", "c"), {"c": held}), truth)

    def test_a_formula_has_the_truth_of_its_test(self):
        numbers = [{"c": one, "d": other} for one in (None, *range(-3, 5)) for other in (None, *range(-3, 5))]
        tests = [compare("c", op, value) for op in OPS for value in (-1, 0, 2)]
        tests += [against("c", op, "d", more=more) for op in OPS for more in (-2, 0, 1)]
        tests += [among("c", [1]), among("c", [2, 1, 2, -3]), among("d", [0, 3]), empty("d"), always(), never()]
        self.same_truths(tests, numbers)

    def test_a_formula_of_texts_has_the_truth_of_its_test(self):
        rows = [{"c": one, "d": other} for one in [None] + texts() for other in (None, "", " ", "a", "a ", "b", "~")]
        tests = [compare("c", op, value) for op in OPS for value in ("", "a", "a ", "~")]
        tests += [against("c", op, "d") for op in OPS] + [begins("c", prefix) for prefix in texts()]
        tests += [among("c", ["a", "", "a "]), among("c", ["~", "b"])]
        self.same_truths(tests, rows)

    def test_a_combined_formula_has_the_truth_of_its_test(self):
        rows = [{"c": one, "d": other} for one in (None, 0, 1, 2, 3) for other in (None, 0, 1, 2, 3)]
        base = [compare("c", "==", 1), against("c", ">", "d"), empty("c"), among("d", [0, 2])]
        pairs = [pair for one in base for other in base for pair in (one & ~other, ~one | other, sure(one) & ~sure(other))]
        self.same_truths(pairs + [~pair | sure(~pair) for pair in pairs], rows)

    def same_truths(self, tests, rows):
        for test in tests:
            said = formula(test)
            for row in rows:
                self.assertIs(formula_truth(said, row), test.truth(row), (str(test), row))


if __name__ == "__main__":
    unittest.main()
