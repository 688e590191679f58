"""Point [34]: the class Scope and its operators."""

import operator
import unittest

from tests.cases import all_rows
from tests.helper import Refusals, joined, odd_things
from tworows.errors import BadClaim, BadTable, BadTest, TooMany
from tworows.logic import against, always, among, begins, compare, empty, never, sure
from tworows.scopes import Scope
from tworows.shapes import Shape

SHAPE = Shape([("n", "number", False), ("m", "number", False)])
LOW, LOWER, HIGH = compare("n", "<", 5), compare("n", "<", 3), compare("n", ">=", 5)
TESTS = [LOW, LOWER, HIGH, compare("n", "<=", 4), always(), never(), empty("n"), ~empty("n"), LOW & HIGH, LOW | HIGH, against("n", "<", "m")]


def members(test, rows):
    """The places of the rows at which a test is True."""
    return frozenset(at for at, row in enumerate(rows) if test.truth(row) is True)


class MadeTest(unittest.TestCase, Refusals):
    def test_base_and_test(self):
        scope = Scope(SHAPE, LOW)
        self.assertEqual(scope.base(), SHAPE)
        self.assertEqual(scope.test(), LOW)

    def test_wrong_tests(self):
        for thing in odd_things() + ["n < 5", Scope(SHAPE, LOW)]:
            self.refused(BadTest, {"why": "part"}, Scope, SHAPE, thing)
        for test in (empty("z"), compare("n", "<", "5"), begins("n", "")):
            self.refused(BadTest, {"why": "column"}, Scope, SHAPE, test)

    def test_many_basic_atoms_are_no_fault_yet(self):
        wide = joined([among("n", range_of(at)) for at in range(5)])
        self.assertEqual(Scope(SHAPE, wide).test(), wide)
        self.refused(TooMany, {"limit": 60}, Scope(SHAPE, wide).is_empty)


def range_of(at):
    """Eight values far from the next eight, with spaces between them."""
    return [100 * at + 2 * value for value in range(8)]


class ComparedTest(unittest.TestCase, Refusals):
    def test_each_operator(self):
        rows = list(all_rows(SHAPE))
        for one in TESTS:
            for other in TESTS:
                left, right = Scope(SHAPE, one), Scope(SHAPE, other)
                for sign in (operator.le, operator.lt, operator.ge, operator.gt, operator.eq, operator.ne):
                    expected = sign(members(one, rows), members(other, rows))
                    self.assertIs(sign(left, right), expected, (str(one), sign.__name__, str(other)))

    def test_the_rules_of_the_shape_count(self):
        shape = SHAPE.with_check(LOW).with_filled("n")
        self.assertIs(Scope(shape, always()) == Scope(shape, LOW), True)
        self.assertIs(Scope(SHAPE, always()) == Scope(SHAPE, LOW), False)
        self.assertIs(Scope(shape, always()) <= Scope(shape, LOWER), False)

    def test_equal_shapes_may_be_two_objects(self):
        other = Shape([["n", "number", False], ("m", "number", False)])
        self.assertIs(Scope(SHAPE, LOW) == Scope(other, compare("n", "<=", 4)), True)
        self.assertIs(Scope(SHAPE, LOWER) < Scope(other, LOW), True)

    def test_unequal_shapes(self):
        one = Scope(SHAPE, LOW)
        for shape in (SHAPE.with_check(always()), SHAPE.with_filled("m"), SHAPE.with_key((("n",), None)), Shape(SHAPE.columns()[::-1])):
            other = Scope(shape, LOW)
            self.assertIs(one == other, False)
            self.assertIs(one != other, True)
            for sign in (operator.le, operator.lt, operator.ge, operator.gt, operator.and_, operator.or_, operator.sub):
                self.refused(BadClaim, {"why": "shape"}, sign, one, other)
                self.refused(BadClaim, {"why": "shape"}, sign, other, one)

    def test_a_scope_equals_nothing_else(self):
        scope = Scope(SHAPE, LOW)
        for thing in odd_things() + [LOW, SHAPE, "n < 5", 5, {}, (SHAPE, LOW)]:
            self.assertIs(scope == thing, False)
            self.assertIs(scope != thing, True)
            self.assertIs(thing == scope, False)
            self.assertIs(thing != scope, True)

    def test_too_many(self):
        one = Scope(SHAPE, joined([compare("n", "<", at) for at in range(24)]))
        two = Scope(SHAPE, joined([compare("n", "<", at) for at in range(30, 54)]))
        both = Scope(SHAPE, joined([compare("n", "<", at) for at in range(53, 65)]))
        large = SHAPE.with_check(both.test())
        for sign in (operator.le, operator.lt, operator.ge, operator.gt, operator.eq, operator.ne):
            sign(one, two)
            sign(Scope(large, one.test()), Scope(large, two.test()))
            larger = large.with_check(compare("m", "<", 0)).with_check(compare("m", "<", 1))
            self.refused(TooMany, {"limit": 60}, sign, Scope(larger, one.test()), Scope(larger, two.test()))


class JoinedTest(unittest.TestCase, Refusals):
    def test_the_tests_of_the_results(self):
        one, other = Scope(SHAPE, LOW), Scope(SHAPE, against("n", "<", "m"))
        for scope, test in [
            (one & other, LOW & other.test()), (one | other, LOW | other.test()), (one - other, LOW & ~sure(other.test())),
            (~one, ~sure(LOW)), (other & one, other.test() & LOW), (other - one, other.test() & ~sure(LOW)),
        ]:
            self.assertIsInstance(scope, Scope)
            self.assertEqual(scope.test(), test)
            self.assertEqual(scope.base(), SHAPE)

    def test_they_stand_for_sets_of_rows(self):
        rows = list(all_rows(SHAPE))
        for one in TESTS:
            left = members(one, rows)
            self.assertEqual(members((~Scope(SHAPE, one)).test(), rows), frozenset(range(len(rows))) - left)
            for other in TESTS[::2]:
                right = members(other, rows)
                self.assertEqual(members((Scope(SHAPE, one) & Scope(SHAPE, other)).test(), rows), left & right)
                self.assertEqual(members((Scope(SHAPE, one) | Scope(SHAPE, other)).test(), rows), left | right)
                self.assertEqual(members((Scope(SHAPE, one) - Scope(SHAPE, other)).test(), rows), left - right)

    def test_the_operands_stay_as_they_are(self):
        one, other = Scope(SHAPE, LOW), Scope(SHAPE, HIGH)
        one & other, one | other, one - other, ~one, one <= other, one == other
        self.assertEqual((one.test(), other.test()), (LOW, HIGH))

    def test_large_and_deep(self):
        wide = Scope(SHAPE, joined([compare("n", "<", at) for at in range(13)]))
        for sign in (operator.and_, operator.or_, operator.sub):
            self.refused(BadTest, {"why": "large"}, sign, wide, wide)
        deep = LOW
        for _ in range(11):
            deep = ~deep
        one, two = Scope(SHAPE, deep), Scope(SHAPE, ~deep)
        self.assertEqual((one & one).test().levels(), 12)
        for call in (lambda: ~one, lambda: one - one, lambda: two & one, lambda: one | two, lambda: ~two, lambda: Scope(SHAPE, LOW) - two):
            self.refused(BadTest, {"why": "deep"}, call)


class RowsTest(unittest.TestCase, Refusals):
    def test_in(self):
        scope = Scope(SHAPE, LOW)
        for row, right in [({"n": 4, "m": 0}, True), ({"m": None, "n": 4}, True), ({"n": 5, "m": 0}, False), ({"n": None, "m": 0}, False)]:
            self.assertIs(row in scope, right)
            self.assertIs(row not in scope, not right)

    def test_in_wants_a_row_of_the_shape(self):
        scope = Scope(SHAPE.with_filled("m").with_check(compare("m", ">", 0)), LOW)
        self.assertIs({"n": 4, "m": 1} in scope, True)
        for row in ({"n": 4, "m": None}, {"n": 4, "m": 0}, {"n": 4}, {"n": 4, "m": 1, "t": 1}, {"n": 4, "m": "1"}, {"n": True, "m": 1}, {}):
            self.assertIs(row in scope, False)

    def test_in_with_odd_things(self):
        for thing in odd_things() + [LOW, SHAPE, "n", 4, [("n", 4), ("m", 1)]]:
            for test in (LOW, always()):
                self.assertIs(thing in Scope(SHAPE, test), False)

    def test_rows(self):
        table = [{"n": n, "m": None} for n in (7, 4, None, 4, 5, -2)]
        for rows in (table, tuple(table)):
            self.assertEqual(Scope(SHAPE, LOW).rows(rows), [1, 3, 5])
            self.assertEqual(Scope(SHAPE, ~LOW).rows(rows), [0, 4])
            self.assertEqual(Scope(SHAPE, never()).rows(rows), [])
            self.assertEqual(Scope(SHAPE, always()).rows(rows), [0, 1, 2, 3, 4, 5])
        self.assertEqual(Scope(SHAPE, LOW).rows([]), [])

    def test_rows_that_are_no_table(self):
        scope = Scope(SHAPE.with_filled("n").with_check(LOW).with_key((("n",), None)), always())
        row = {"n": 1, "m": 2}
        for thing in odd_things():
            if not isinstance(thing, (list, tuple)):
                self.refused(BadTable, {"why": "rows", "at": -1}, scope.rows, thing)
            self.refused(BadTable, {"why": "rows", "at": 1}, scope.rows, [row, thing])
        self.refused(BadTable, {"why": "rows", "at": -1}, scope.rows, [row] * 61)
        self.refused(BadTable, {"why": "filled", "at": 1}, scope.rows, [row, {"n": None, "m": 2}])
        self.refused(BadTable, {"why": "check", "at": 0}, scope.rows, [{"n": 5, "m": 2}])
        self.refused(BadTable, {"why": "key", "at": 1}, scope.rows, [row, {"n": 1, "m": 3}])

    def test_is_empty(self):
        for test, right in [(never(), True), (LOW & HIGH, True), (LOW, False), (always(), False), (empty("n"), False), (LOW & empty("n"), True)]:
            self.assertIs(Scope(SHAPE, test).is_empty(), right)
        self.assertIs(Scope(SHAPE.with_filled("n"), empty("n")).is_empty(), True)
        self.assertIs(Scope(SHAPE.with_check(HIGH), LOW).is_empty(), True)
        self.assertIs(Scope(SHAPE.with_check(never()), always()).is_empty(), True)


if __name__ == "__main__":
    unittest.main()
