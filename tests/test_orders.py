"""Points [41] and [42]: orders, and rows sorted by them."""

import itertools
import unittest

from tests.helper import Refusals, odd_things
from tworows.errors import BadOrder
from tworows.logic import always
from tworows.orders import alike_in, comes_ahead, need_order, order_in, sort_rows, turned
from tworows.shapes import Shape

SHAPE = Shape([("a", "number", False), ("b", "text", False), ("c", "number", True), ("d", "number", True)])
A, B, C = ("a", "up"), ("b", "down"), ("c", "up")


class NeedTest(unittest.TestCase, Refusals):
    def bad(self, at, thing):
        self.refused(BadOrder, {"at": at}, need_order, thing)
        self.refused(BadOrder, {"at": at}, order_in, SHAPE, thing)

    def good(self, thing, order):
        for told in (need_order(thing), order_in(SHAPE, thing)):
            self.assertEqual(told, order)
            self.assertTrue(all(type(part) is tuple for part in (told, *told)))

    def test_lists_and_tuples(self):
        self.good([A], (A,))
        self.good((list(B),), (B,))
        self.good([list(A), B, list(C)], (A, B, C))
        self.good((C, B, A), (C, B, A))

    def test_no_sequence(self):
        for thing in odd_things() + [5, "", "a up", {}, {"a": "up"}, SHAPE, always()]:
            if not isinstance(thing, (list, tuple)):
                self.bad(-1, thing)

    def test_1_to_3_parts(self):
        for thing in ([], (), [A, B, C, ("d", "up")], (A,) * 4, [None] * 4, A + B):
            self.bad(-1, thing)

    def test_wrong_parts(self):
        wrong = [
            (), ("a",), ("a", "up", "up"), "up", "ab", {"a": "up"}, ("up", "a"), ("a", "Up"), ("a", ""), ("a", "UP"), ("a", None),
            ("a", True), ("a", 1), ("a", ["up"]), ("a", b"up"), ("A", "up"), ("", "up"), ("empty", "up"), (None, "up"),
            (["a"], "up"), ("abcdefghi", "up"), ("a", "upward"),
        ]
        for part in wrong + odd_things():
            self.bad(0, [part])
            self.bad(1, [C, part])
            self.bad(2, (C, B, part))
            self.bad(1, [C, part, part])

    def test_odd_parts_of_a_part(self):
        for thing in odd_things():
            self.bad(1, [C, (thing, "up")])
            self.bad(1, [C, ("a", thing)])

    def test_a_column_of_an_earlier_part(self):
        self.bad(1, [A, A])
        self.bad(1, [A, ("a", "down")])
        self.bad(2, [A, B, A])
        self.bad(1, [A, ("a", "down"), None])
        self.bad(1, [("z", "up"), ("z", "up")])

    def test_what_is_handed_in_stays_as_it_is(self):
        thing = [["a", "up"], ["b", "down"]]
        told = need_order(thing)
        self.assertEqual(thing, [["a", "up"], ["b", "down"]])
        thing[0][0] = "c"
        thing.append(None)
        self.assertEqual(told, (A, B))


class OrderInTest(unittest.TestCase, Refusals):
    def test_a_column_that_is_not_in_the_shape(self):
        z, y = ("z", "up"), ("y", "down")
        for at, thing in [(0, [z]), (0, [z, A]), (1, [A, z]), (2, (A, B, z)), (0, [z, y, A]), (1, [A, z, y])]:
            self.assertEqual(need_order(thing), tuple(thing))
            self.refused(BadOrder, {"at": at}, order_in, SHAPE, thing)

    def test_the_faults_of_the_form_are_ahead(self):
        z = ("z", "up")
        self.refused(BadOrder, {"at": 1}, order_in, SHAPE, [z, None])
        self.refused(BadOrder, {"at": 2}, order_in, SHAPE, [z, A, A])
        self.refused(BadOrder, {"at": -1}, order_in, SHAPE, [z, z, z, z])


class AlikeTest(unittest.TestCase):
    def test_one_column(self):
        places = [None, 0, 1, -1, 10 ** 40]
        for one, other in itertools.product(places, places):
            self.assertIs(alike_in(["a"], {"a": one, "b": "x"}, {"a": other, "b": "y"}), one == other)
        for one, other in itertools.product([None, "", " ", "a"], repeat=2):
            self.assertIs(alike_in(("b",), {"a": 1, "b": one}, {"a": 2, "b": other}), one == other)

    def test_several_columns(self):
        row = {"a": 1, "b": None, "c": 5}
        self.assertIs(alike_in(["a", "b"], row, {"a": 1, "b": None, "c": 6}), True)
        self.assertIs(alike_in(["a", "b", "c"], row, {"a": 1, "b": None, "c": 6}), False)
        self.assertIs(alike_in(("b", "a"), row, {"a": 1, "b": "", "c": 5}), False)
        self.assertIs(alike_in(("b", "a"), row, {"a": None, "b": None, "c": 5}), False)

    def test_no_columns(self):
        self.assertIs(alike_in([], {"a": 1}, {"a": 2}), True)
        self.assertIs(alike_in((), {"a": None}, {"a": 2}), True)


class AheadTest(unittest.TestCase):
    PLACES = [None, -5, 0, 7, 10 ** 40]
    TEXTS = [None, "", " ", "A", "a", "a ", "b"]

    def test_up_and_down_with_empty_places(self):
        for name, places in (("a", self.PLACES), ("b", self.TEXTS)):
            for (i, one), (j, other) in itertools.product(enumerate(places), enumerate(places)):
                self.assertIs(comes_ahead(((name, "up"),), {name: one}, {name: other}), i < j)
                self.assertIs(comes_ahead([[name, "down"]], {name: one}, {name: other}), i > j)

    def test_the_first_part_in_which_they_are_not_alike(self):
        rows = [{"a": a, "b": b} for a in (None, 1, 2) for b in (None, "x", "y")]
        for way, other_way in itertools.product(("up", "down"), repeat=2):
            order = (("a", way), ("b", other_way))
            for one, other in itertools.product(rows, rows):
                first, second = ({None: 0, 1: 1, 2: 2}[row["a"]] * (1 if way == "up" else -1) for row in (one, other))
                third, fourth = ({None: 0, "x": 1, "y": 2}[row["b"]] * (1 if other_way == "up" else -1) for row in (one, other))
                self.assertIs(comes_ahead(order, one, other), (first, third) < (second, fourth))

    def test_three_parts_and_other_columns(self):
        one, other = {"a": 1, "b": "x", "c": 5, "d": 9}, {"a": 1, "b": "x", "c": 6, "d": 0}
        self.assertIs(comes_ahead((A, B, C), one, other), True)
        self.assertIs(comes_ahead((A, B, C), other, one), False)
        self.assertIs(comes_ahead((A, B), one, other), False)
        self.assertIs(comes_ahead((A, B), other, one), False)


class SortTest(unittest.TestCase):
    def rows(self):
        found = [{"a": a, "b": b, "c": c} for a in (2, None, 1) for b in ("x", None, "y", "x") for c in (0, 1)]
        return found[5:] + found[:5]

    def test_against_every_two_rows(self):
        for parts in (1, 2, 3):
            for names in itertools.permutations("abc", parts):
                for ways in itertools.product(("up", "down"), repeat=parts):
                    order = tuple(zip(names, ways))
                    rows = [{**row, "at": at} for at, row in enumerate(self.rows())]
                    told = sort_rows(order, rows)
                    self.assertEqual(sorted(row["at"] for row in told), list(range(len(rows))))
                    for one, other in itertools.combinations(told, 2):
                        self.assertIs(comes_ahead(order, other, one), False)
                        if not comes_ahead(order, one, other):
                            self.assertLess(one["at"], other["at"])

    def test_rows_of_which_neither_comes_ahead_stay_as_they_stood(self):
        rows = [{"a": 1, "b": text} for text in "qwertyuiop"]
        self.assertEqual(sort_rows([A], rows), rows)
        self.assertEqual(sort_rows([("a", "down")], rows), rows)
        mixed = [{"a": at % 2, "b": str(at)} for at in range(9)]
        self.assertEqual([row["b"] for row in sort_rows([A], mixed)], list("024681357"))
        self.assertEqual([row["b"] for row in sort_rows([("a", "down")], mixed)], list("135702468"))

    def test_empty_places(self):
        rows = [{"a": a} for a in (3, None, 1, None, 2)]
        self.assertEqual([row["a"] for row in sort_rows([("a", "up")], rows)], [None, None, 1, 2, 3])
        self.assertEqual([row["a"] for row in sort_rows([("a", "down")], rows)], [3, 2, 1, None, None])

    def test_few_and_many_rows(self):
        self.assertEqual(sort_rows([A], []), [])
        self.assertEqual(sort_rows([A], [{"a": 1}]), [{"a": 1}])
        self.assertEqual(sort_rows([A], ({"a": 2}, {"a": 1})), [{"a": 1}, {"a": 2}])
        many = [{"a": (at * 37) % 101} for at in range(101)]
        self.assertEqual(sort_rows([A], many), [{"a": at} for at in range(101)])

    def test_new_dicts(self):
        for values in ((), (1,), (2, 1, 2)):
            rows = [{"a": value} for value in values]
            told = sort_rows([A], rows)
            self.assertIs(type(told), list)
            self.assertIsNot(told, rows)
            for row in told:
                self.assertTrue(all(row is not other for other in rows))
                row["a"] = 99
            self.assertEqual(rows, [{"a": value} for value in values])


class TurnedTest(unittest.TestCase):
    def test_each_part(self):
        self.assertEqual(turned((A, B, C)), (("a", "down"), ("b", "up"), ("c", "down")))
        told = turned([["a", "down"]])
        self.assertEqual(told, (("a", "up"),))
        self.assertEqual((type(told), type(told[0])), (tuple, tuple))

    def test_turned_of_turned(self):
        for order in ((A,), (B,), (C, B, A)):
            self.assertEqual(turned(turned(order)), order)

    def test_it_turns_who_comes_ahead(self):
        rows = [{"a": a, "b": b} for a in (None, 1, 2) for b in (None, "x", "y")]
        for one, other in itertools.product(rows, rows):
            self.assertIs(comes_ahead(turned((A, B)), one, other), comes_ahead((A, B), other, one))


if __name__ == "__main__":
    unittest.main()
