"""Points [19], [20] and [22]: what makes a shape, what is told of it, and shapes made from it."""

import unittest

from tests.helper import Refusals, odd_things
from tworows.errors import BadRow, BadShape
from tworows.logic import against, always, begins, compare, empty, never
from tworows.shapes import Shape

A = ("a", "number", True)
B = ("b", "text", False)
C = ("c", "number", False)
FIT = compare("a", "<", 5)


def columns(many):
    """So many right columns."""
    return [(f"c{at}", "number", False) for at in range(many)]


class Faults(Refusals):
    def bad(self, why, at, *given, **named):
        self.refused(BadShape, {"why": why, "at": at}, Shape, *given, **named)


class ColumnsTest(unittest.TestCase, Faults):
    def test_no_sequence(self):
        for thing in odd_things() + [1, "ab", {"a": A}, A[0]]:
            if not isinstance(thing, (list, tuple)):
                self.bad("columns", -1, thing)

    def test_1_to_12_columns(self):
        for many in (0, 13, 40):
            self.bad("columns", -1, columns(many))
            self.bad("columns", -1, tuple(columns(many)))
        for many in (1, 12):
            self.assertEqual(Shape(columns(many)).columns(), columns(many))
            self.assertEqual(Shape(tuple(columns(many))).columns(), columns(many))

    def test_the_length_decides_ahead_of_the_items(self):
        self.bad("columns", -1, [None] * 13)
        self.bad("columns", -1, columns(12) + [None])

    def test_lists_and_tuples(self):
        shape = Shape([list(A), B, list(C)])
        self.assertEqual(shape.columns(), [A, B, C])
        self.assertTrue(all(type(column) is tuple for column in shape.columns()))

    def test_wrong_columns(self):
        wrong = [
            (), ("x",), ("x", "number"), ("x", "number", True, True), ["x", "number"], "xyz", {"x": 1, "number": 2, "f": 3},
            ("", "number", True), ("X", "number", True), ("1x", "number", True), ("x_", "number", True),
            ("abcdefghi", "number", True), ("empty", "number", True), ("and", "text", False), (None, "number", True),
            (1, "number", True), (["x"], "number", True), ("x", "Number", True), ("x", "", True), ("x", None, True),
            ("x", int, True), ("x", ["number"], True), ("x", {}, True), ("x", "num", True), ("x", b"text", True),
            ("x", "number", 1), ("x", "number", 0), ("x", "number", None), ("x", "number", "True"), ("x", "number", []),
            ("number", "x", True), (True, "number", "x"), ("x", True, "number"),
        ]
        for column in wrong + odd_things():
            self.bad("columns", 0, [column])
            self.bad("columns", 1, [A, column])
            self.bad("columns", 2, (A, B, column, column), checks=None, keys=None)

    def test_odd_parts_of_a_column(self):
        for thing in odd_things():
            self.bad("columns", 1, [A, (thing, "number", True)])
            self.bad("columns", 1, [A, ("x", thing, True)])
            if not isinstance(thing, bool):
                self.bad("columns", 1, [A, ("x", "number", thing)])

    def test_the_name_of_an_earlier_column(self):
        self.bad("columns", 1, [A, A])
        self.bad("columns", 2, [A, B, ("a", "text", False), ("b", "text", False)])
        self.bad("columns", 11, columns(11) + [("c0", "number", False)])

    def test_every_kind_and_flag(self):
        for kind in ("number", "text"):
            for flag in (True, False):
                shape = Shape([("x", kind, flag)])
                self.assertEqual(shape.kind("x"), kind)
                self.assertIs(shape.filled("x"), flag)


class ChecksTest(unittest.TestCase, Faults):
    def test_none_by_default(self):
        self.assertEqual(Shape([A]).checks(), [])
        self.assertEqual(Shape([A], checks=[], keys=()).checks(), [])

    def test_no_sequence(self):
        for thing in odd_things() + [FIT, "", {}, 0]:
            if not isinstance(thing, (list, tuple)):
                self.bad("checks", -1, [A], checks=thing)

    def test_at_most_9(self):
        self.assertEqual(Shape([A], checks=[FIT] * 9).checks(), [FIT] * 9)
        self.assertEqual(Shape([A], checks=(FIT,) * 9).checks(), [FIT] * 9)
        self.bad("checks", -1, [A], checks=[FIT] * 10)
        self.bad("checks", -1, [A], checks=[None] * 10)

    def test_wrong_checks(self):
        misfits = [compare("b", "<", 1), compare("a", "<", "x"), against("a", "<", "c"), begins("a", "x"), empty("z")]
        for thing in odd_things() + misfits + ["a < 5", (FIT,), compare, 0, "", {}]:
            self.bad("checks", 0, [A], checks=[thing])
            self.bad("checks", 2, [A], checks=(FIT, always(), thing, thing))

    def test_the_order_of_the_checks_is_kept(self):
        checks = [never(), FIT, always(), FIT]
        self.assertEqual(Shape([A], checks=checks).checks(), checks)


class KeysTest(unittest.TestCase, Faults):
    def test_none_by_default(self):
        self.assertEqual(Shape([A]).unique_keys(), [])

    def test_no_sequence(self):
        for thing in odd_things() + ["", {}, 0, FIT]:
            if not isinstance(thing, (list, tuple)):
                self.bad("keys", -1, [A], keys=thing)

    def test_at_most_9(self):
        key = (("a",), None)
        self.assertEqual(Shape([A], keys=[key] * 9).unique_keys(), [key] * 9)
        self.bad("keys", -1, [A], keys=[key] * 10)
        self.bad("keys", -1, [A], keys=[None] * 10)

    def test_lists_and_tuples_and_tests(self):
        shape = Shape([A, B, C], keys=([["a"], FIT], (("c", "b", "a"), None), (["b", "a"], always())))
        keys = [(("a",), FIT), (("c", "b", "a"), None), (("b", "a"), always())]
        self.assertEqual(shape.unique_keys(), keys)
        for key in shape.unique_keys():
            self.assertEqual((type(key), type(key[0])), (tuple, tuple))
        self.assertIsNone(shape.unique_keys()[1][1])

    def test_wrong_keys(self):
        wrong = [
            (), (("a",),), (("a",), None, None), ("a", None), ((), None), ([], None), (("a", "b", "c", "d"), None),
            (("a", "a"), None), (("a", "b", "a"), None), (("a", "z"), None), (("z",), None), (("A",), None), ({"a": 1}, None),
            ({"a"}, None), (None, None), (("a",), True), (("a",), "a < 5"), (("a",), ()), (("a",), compare("z", "<", 1)),
            (("a",), compare("b", "<", 1)), (("a",), against("a", "<", "b")), (None, ("a",)), "ab", {"a": None, "b": None},
        ]
        four = [A, B, C, ("d", "text", True)]
        for key in wrong + odd_things():
            self.bad("keys", 0, four, keys=[key])
            self.bad("keys", 1, four, keys=((("a",), None), key, key))

    def test_odd_parts_of_a_key(self):
        for thing in odd_things():
            self.bad("keys", 0, [A, B], keys=[((thing,), None)])
            self.bad("keys", 0, [A, B], keys=[(["a", thing, "b"], FIT)])
            if thing not in (("a",), None):
                self.bad("keys", 0, [A, B], keys=[(thing, None)])
                self.bad("keys", 0, [A, B], keys=[(("a",), thing)])


class OrderOfFaultsTest(unittest.TestCase, Faults):
    def test_the_first_argument_with_a_fault_decides(self):
        self.bad("columns", -1, None, checks=None, keys=None)
        self.bad("columns", 0, [None], checks=None, keys=None)
        self.bad("columns", 1, [A, A], checks=[None], keys=[None])
        self.bad("checks", -1, [A], checks=None, keys=None)
        self.bad("checks", 0, [A], checks=[None], keys=None)
        self.bad("checks", 1, [A], checks=[FIT, None], keys=[None] * 10)
        self.bad("keys", -1, [A], checks=[FIT], keys=None)

    def test_the_first_item_with_a_fault_decides(self):
        self.bad("columns", 1, [A, None, None])
        self.bad("checks", 1, [A], checks=[FIT, empty("z"), None])
        self.bad("keys", 1, [A], keys=[(("a",), None), (("z",), None), None])

    def test_checks_and_keys_are_given_by_name(self):
        with self.assertRaises(TypeError):
            Shape([A], [FIT])


class ToldTest(unittest.TestCase, Refusals):
    def setUp(self):
        self.shape = Shape([A, B, C], checks=[FIT, empty("b")], keys=[(("a", "c"), None), (("b",), FIT)])

    def test_what_is_told(self):
        self.assertEqual(self.shape.columns(), [A, B, C])
        self.assertEqual(self.shape.names(), ["a", "b", "c"])
        self.assertEqual(self.shape.checks(), [FIT, empty("b")])
        self.assertEqual(self.shape.unique_keys(), [(("a", "c"), None), (("b",), FIT)])

    def test_names_stand_in_the_order_of_the_columns(self):
        self.assertEqual(Shape([C, A, B]).names(), ["c", "a", "b"])

    def test_the_lists_may_be_changed(self):
        for call in (self.shape.columns, self.shape.names, self.shape.checks, self.shape.unique_keys):
            told, again = call(), call()
            self.assertIs(type(told), list)
            told.append(1)
            told[0] = None
            self.assertEqual(call(), again)

    def test_what_was_handed_in_may_be_changed(self):
        fields, names, key = [list(A), list(B)], ["a", "b"], [["a", "b"], None]
        key[0] = names
        checks, keys = [FIT], [key]
        shape = Shape(fields, checks=checks, keys=keys)
        fields[0][0] = "z"
        fields.append(C)
        names.append("z")
        key[1] = FIT
        checks.append(None)
        keys.clear()
        self.assertEqual(shape, Shape([A, B], checks=[FIT], keys=[(("a", "b"), None)]))

    def test_what_is_handed_in_stays_as_it_is(self):
        fields, checks, keys = [list(A), B], [FIT], [[["a"], None]]
        Shape(fields, checks=checks, keys=keys)
        self.assertEqual((fields, checks, keys), ([["a", "number", True], B], [FIT], [[["a"], None]]))

    def test_kind_and_filled(self):
        for name, kind, flag in (A, B, C):
            self.assertEqual(self.shape.kind(name), kind)
            self.assertIs(self.shape.filled(name), flag)

    def test_there_is_no_such_column(self):
        for thing in ["z", "", "A", "number", "a ", 1, 0, FIT, self.shape, {}]:
            for call in (self.shape.kind, self.shape.filled, self.shape.with_filled):
                self.refused(BadRow, {"column": thing}, call, thing)

    def test_odd_names(self):
        for thing in odd_things():
            for call in (self.shape.kind, self.shape.filled, self.shape.with_filled):
                with self.assertRaises(BadRow) as caught:
                    call(thing)
                self.assertIs(caught.exception.column, thing)


class MadeFromItTest(unittest.TestCase, Refusals):
    def setUp(self):
        self.shape = Shape([A, B, C], checks=[FIT], keys=[(("a",), None)])

    def test_with_check(self):
        made = self.shape.with_check(empty("c"))
        self.assertEqual(made, Shape([A, B, C], checks=[FIT, empty("c")], keys=[(("a",), None)]))
        self.assertEqual(self.shape.checks(), [FIT])

    def test_with_a_wrong_check(self):
        for thing in odd_things() + [compare("z", "<", 1), compare("b", "<", 1)]:
            self.refused(BadShape, {"why": "checks", "at": 1}, self.shape.with_check, thing)

    def test_with_key(self):
        made = self.shape.with_key([["b", "c"], FIT])
        self.assertEqual(made, Shape([A, B, C], checks=[FIT], keys=[(("a",), None), (("b", "c"), FIT)]))
        self.assertEqual(self.shape.unique_keys(), [(("a",), None)])

    def test_with_a_wrong_key(self):
        for thing in odd_things() + [(("z",), None), (("a",), compare("z", "<", 1)), (("a", "a"), None)]:
            self.refused(BadShape, {"why": "keys", "at": 1}, self.shape.with_key, thing)

    def test_at_and_beyond_9(self):
        shape = Shape([A])
        for many in range(9):
            shape = shape.with_check(FIT).with_key((("a",), None))
            self.assertEqual((len(shape.checks()), len(shape.unique_keys())), (many + 1, many + 1))
        for thing in (FIT, None):
            self.refused(BadShape, {"why": "checks", "at": -1}, shape.with_check, thing)
            self.refused(BadShape, {"why": "keys", "at": -1}, shape.with_key, thing)

    def test_with_filled(self):
        made = self.shape.with_filled("c")
        self.assertEqual(made, Shape([A, B, ("c", "number", True)], checks=[FIT], keys=[(("a",), None)]))
        self.assertIs(made.filled("c"), True)
        self.assertIs(self.shape.filled("c"), False)
        self.assertEqual(self.shape.with_filled("a"), self.shape)
        self.assertEqual(made.with_filled("b").columns(), [A, ("b", "text", True), ("c", "number", True)])


class EqualityTest(unittest.TestCase):
    def unlike_shapes(self):
        return [
            Shape([A]), Shape([("a", "number", False)]), Shape([("a", "text", True)]), Shape([("b", "number", True)]),
            Shape([A, B]), Shape([B, A]), Shape([A, B, C]), Shape([A], checks=[FIT]), Shape([A], checks=[FIT, FIT]),
            Shape([A], checks=[always(), FIT]), Shape([A], checks=[FIT, always()]), Shape([A], keys=[(("a",), None)]),
            Shape([A], keys=[(("a",), always())]), Shape([A], keys=[(("a",), FIT)]),
            Shape([A], keys=[(("a",), None), (("a",), FIT)]), Shape([A], keys=[(("a",), FIT), (("a",), None)]),
            Shape([A, B], keys=[(("a", "b"), None)]), Shape([A, B], keys=[(("b", "a"), None)]),
            Shape([A], checks=[FIT], keys=[(("a",), FIT)]),
        ]

    def test_equal_and_unequal_shapes(self):
        for i, one in enumerate(self.unlike_shapes()):
            for j, other in enumerate(self.unlike_shapes()):
                self.assertIs(one == other, i == j, (i, j))
                self.assertIs(one != other, i != j, (i, j))

    def test_lists_and_tuples_make_equal_shapes(self):
        one = Shape([list(A), B], checks=(FIT,), keys=((["a"], FIT),))
        self.assertIs(one == Shape((A, list(B)), checks=[FIT], keys=[[("a",), FIT]]), True)

    def test_a_shape_equals_nothing_else(self):
        shape = Shape([A])
        for thing in odd_things() + [[A], (A,), FIT, "a", 1, {}, Shape]:
            self.assertIs(shape == thing, False)
            self.assertIs(shape != thing, True)
            self.assertIs(thing == shape, False)
            self.assertIs(thing != shape, True)


if __name__ == "__main__":
    unittest.main()
