"""Points [36] and [37]: the texts of orders, claims, rules, plans and shapes."""

import unittest

from tests.helper import Refusals, odd_things
from tests.test_claims import as_lists
from tworows.errors import BadClaim, BadOrder, BadTest
from tworows.logic import against, always, among, begins, compare, empty, never, sure
from tworows.plans import Plan
from tworows.shapes import Shape
from tworows.texts import claim_text, order_text, plan_text, rule_text, shape_text

T = compare("a", "<", 1) | empty("b")
U = ~(begins("b", 'x"') & always())


class OrderTextTest(unittest.TestCase, Refusals):
    def test_one_to_three_parts(self):
        for order, text in [
            ([("a", "up")], "a up"),
            ([("up", "down")], "up down"),
            ([("a", "down"), ("b", "up")], "a down, b up"),
            ([("abcdefgh", "up"), ("b1", "down"), ("down", "up")], "abcdefgh up, b1 down, down up"),
        ]:
            for thing in (order, tuple(order), [list(part) for part in order]):
                told = order_text(thing)
                self.assertEqual(told, text)
                self.assertIs(type(told), str)

    def test_what_need_order_raises(self):
        a = ("a", "up")
        for at, thing in [(-1, []), (-1, None), (-1, "a up"), (0, [None]), (1, [a, a]), (2, [a, ("b", "up"), ("c", "Up")]), (-1, [a] * 4)]:
            self.refused(BadOrder, {"at": at}, order_text, thing)
        for thing in odd_things():
            self.refused(BadOrder, {"at": 1}, order_text, [a, thing])


class ClaimTextTest(unittest.TestCase, Refusals):
    def test_each_form(self):
        t, u = str(T), str(U)
        for claim, text in [
            (("never", T), f"never where {t}"),
            (("within", T, U), f"always {u} where {t}"),
            (("within", always(), never()), "always never where always"),
            (("within", never(), always()), "always always where never"),
            (("at_most_one", U), f"at most one where {u}"),
            (("constant", T, "a"), f"constant a where {t}"),
            (("constant", T, "constant"), f"constant constant where {t}"),
            (("tells", T, (), ("a",)), f"() tell (a) where {t}"),
            (("tells", T, ("a",), ("b", "c")), f"(a) tell (b, c) where {t}"),
            (("tells", T, ("c", "b", "a"), ("a", "b", "c")), f"(c, b, a) tell (a, b, c) where {t}"),
            (("apart", T, ("a",)), f"apart (a) where {t}"),
            (("apart", T, ("b", "a", "where")), f"apart (b, a, where) where {t}"),
            (("follows", T, (("a", "up"),), (("b", "down"),)), f"order (a up) gives (b down) where {t}"),
            (
                ("follows", T, (("a", "up"), ("b", "down")), (("c", "up"), ("b", "down"), ("a", "up"))),
                f"order (a up, b down) gives (c up, b down, a up) where {t}",
            ),
        ]:
            for thing in (claim, list(claim), as_lists(claim)):
                self.assertEqual(claim_text(thing), text)

    def test_what_need_claim_raises(self):
        for kind, told, thing in [
            (BadClaim, {"why": "form"}, ("never",)), (BadClaim, {"why": "form"}, ("x", T)), (BadTest, {"why": "part"}, ("never", "x")),
            (BadTest, {"why": "part"}, ("within", T, None)), (BadClaim, {"why": "names"}, ("constant", T, "A")),
            (BadClaim, {"why": "names"}, ("apart", T, [])), (BadOrder, {"at": -1}, ("follows", T, [("a", "up")], [])),
            (BadOrder, {"at": 1}, ("follows", T, [("a", "up"), 1], [])),
        ]:
            self.refused(kind, told, claim_text, thing)
        for thing in odd_things():
            self.refused(BadClaim, {"why": "form"}, claim_text, thing)
            self.refused(BadTest, {"why": "part"}, claim_text, ("never", thing))


class RuleTextTest(unittest.TestCase):
    def test_each_form(self):
        for rule, text in [
            (("check", T), f"check {T}"),
            (("check", never()), "check never"),
            (("filled", "a"), "filled a"),
            (("filled", "filled"), "filled filled"),
            (("key", (("a",), None)), "key a"),
            (("key", (("a", "b", "c"), None)), "key a, b, c"),
            (("key", (("b",), U)), f"key b where {U}"),
            (("key", (("where", "key"), always())), "key where, key where always"),
        ]:
            for thing in (rule, list(rule), as_lists(rule)):
                told = rule_text(thing)
                self.assertEqual(told, text)
                self.assertIs(type(told), str)


class PlanTextTest(unittest.TestCase):
    def test_each_step(self):
        for steps, text in [
            ([], ""),
            ([("keep", T)], f"keep {T}"),
            ([("sort", [("a", "up")])], "sort a up"),
            ([("sort", [("a", "up"), ("b", "down"), ("c", "up")])], "sort a up, b down, c up"),
            ([("distinct", [])], "distinct"),
            ([("distinct", ["a"])], "distinct a"),
            ([("distinct", ["b", "a", "first"])], "distinct b, a, first"),
            ([("first",)], "first"),
            ([("flip",)], "flip"),
            ([("distinct", ()), ("distinct", ["distinct"]), ("flip",), ("first",)], "distinct; distinct distinct; flip; first"),
            ([("first",), ("keep", U), ("sort", [("b", "up")]), ("flip",), ("keep", sure(T))], f"first; keep {U}; sort b up; flip; keep {sure(T)}"),
        ]:
            told = plan_text(Plan(steps))
            self.assertEqual(told, text)
            self.assertIs(type(told), str)


class ShapeTextTest(unittest.TestCase):
    def test_lines(self):
        shape = Shape([("a", "number", False)])
        self.assertEqual(shape_text(shape), "column a number")
        shape = Shape([("a", "number", True), ("text", "text", False), ("b", "text", True)])
        self.assertEqual(shape_text(shape), "column a number filled\ncolumn text text\ncolumn b text filled")
        shape = Shape(
            [("b", "text", True), ("a", "number", False), ("c", "number", False)],
            checks=[T, against("a", ">=", "c", more=-2), among("a", [1, 2])],
            keys=[(("a",), None), (("c", "a", "b"), U), (("b",), always())],
        )
        self.assertEqual(shape_text(shape), "\n".join([
            "column b text filled", "column a number", "column c number", f"check {T}", "check a >= c - 2", "check a in (1, 2)",
            "key a", f"key c, a, b where {U}", "key b where always",
        ]))

    def test_checks_alone_and_keys_alone(self):
        column = ("a", "number", False)
        self.assertEqual(shape_text(Shape([column], checks=[never()])), "column a number\ncheck never")
        self.assertEqual(shape_text(Shape([column], keys=[(["a"], None)])), "column a number\nkey a")


if __name__ == "__main__":
    unittest.main()
