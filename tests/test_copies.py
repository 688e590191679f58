"""Points [43] to [46]: small shapes, copies of a row, tests between copies, decisions."""

import itertools
import random
import unittest

from tests.helper import Refusals, joined, odd_things
from tests.small import deepened, few_key, few_order, few_shape, few_test, large_shapes
from tworows.desk import Desk
from tworows.errors import BadClaim, TooMany
from tworows.logic import against, always, among, begins, compare, empty, never, sure
from tworows.moves import cases_of_offer, cheapest, moves, offer_stands, shows_moves
from tworows.orders import alike_in, comes_ahead, turned
from tworows.pairs import (
    ahead, breaks, cases_of, claim_holds, clash, copies, copy_test, is_small, rows_of, same, shows_claim,
)
from tworows.plans import (
    Plan, can_stand, cases_of_exchange, cases_of_idle, idle, may_exchange, shows_exchange, shows_idle,
)
from tworows.rules import mends, needed_rules
from tworows.search import find_row
from tworows.shapes import Shape, may_stand
from tworows.wants import count_atoms

A, B = ("a", "number", False), ("b", "text", True)
ONE = compare("a", "<", 1)


class SmallTest(unittest.TestCase):
    def test_names_of_7_and_8_characters(self):
        self.assertIs(is_small(Shape([("abcdefg", "number", False)])), True)
        self.assertIs(is_small(Shape([("abcdefgh", "number", False)])), False)
        self.assertIs(is_small(Shape([A, ("abcdefgh", "text", True)])), False)

    def test_4_and_5_columns(self):
        columns = [(name, "number", False) for name in "abcde"]
        self.assertIs(is_small(Shape(columns[:4])), True)
        self.assertIs(is_small(Shape(columns)), False)
        self.assertIs(is_small(Shape(columns[:1])), True)

    def test_3_and_4_checks_and_keys(self):
        key = (("a",), None)
        self.assertIs(is_small(Shape([A], checks=[ONE] * 3, keys=[key] * 3)), True)
        self.assertIs(is_small(Shape([A], checks=[ONE] * 4)), False)
        self.assertIs(is_small(Shape([A], keys=[key] * 4)), False)
        self.assertIs(is_small(Shape([A], checks=[ONE] * 9, keys=[key] * 9)), False)

    def test_8_and_9_atoms(self):
        for many, small in ((8, True), (9, False)):
            for test in (joined([ONE] * many), joined([always()] * many)):
                self.assertIs(is_small(Shape([A], checks=[ONE, test])), small)
                self.assertIs(is_small(Shape([A], keys=[(("a",), None), (("a",), test)])), small)

    def test_an_atom_with_many_values_is_one(self):
        wide = joined([among("a", list(range(8)))] * 8)
        self.assertIs(is_small(Shape([A], checks=[wide])), True)

    def test_8_and_9_levels(self):
        for many, small in ((8, True), (9, False)):
            for test in (deepened(ONE, many), sure(deepened(ONE, many - 1)), deepened(ONE & ONE, many - 1)):
                self.assertIs(is_small(Shape([A], checks=[test])), small)
                self.assertIs(is_small(Shape([A], keys=[(("a",), test)])), small)

    def test_each_large_shape(self):
        for shape in large_shapes():
            self.assertIs(is_small(shape), False)


class LargeTest(unittest.TestCase, Refusals):
    def calls(self, shape, thing):
        """Each function of point [43], with this thing as every other argument."""
        return [
            (cases_of, (shape, thing)), (claim_holds, (shape, thing)), (breaks, (shape, thing, thing)),
            (shows_claim, (shape, thing, thing)), (can_stand, (shape, thing, thing, thing)),
            (cases_of_idle, (shape, thing, thing)), (cases_of_exchange, (shape, thing, thing)), (idle, (shape, thing, thing)),
            (may_exchange, (shape, thing, thing)), (shows_idle, (shape, thing, thing, thing)),
            (shows_exchange, (shape, thing, thing, thing)), (moves, (shape, thing)), (shows_moves, (shape, thing, thing, thing)),
            (cheapest, (shape, thing, thing)), (cases_of_offer, (shape, thing, thing, thing)),
            (offer_stands, (shape, thing, thing, thing)), (mends, (shape, thing, thing)), (needed_rules, (shape, thing)),
        ]

    def test_ahead_of_every_other_fault(self):
        for shape in large_shapes():
            for thing in odd_things() + [5, "x"]:
                for call, given in self.calls(shape, thing):
                    self.refused(BadClaim, {"why": "shape"}, call, *given)

    def test_without_another_fault(self):
        plan = Plan([("keep", ONE), ("sort", [("a", "up")])])
        order, claim = [("a", "up")], ("never", ONE)
        prices = {word: 1 for word in ("keep", "sort", "distinct", "first", "flip")}
        for shape in large_shapes():
            for call, given in [
                (copies, (1,)), (copies, (3,)), (cases_of, (claim,)), (claim_holds, (claim,)), (breaks, (claim, [])),
                (shows_claim, (claim, ("rows", []))), (can_stand, (plan, 0, [])), (cases_of_idle, (plan, 0)), (idle, (plan, 0)),
                (cases_of_exchange, (plan, 0)), (may_exchange, (plan, 0)), (shows_idle, (plan, 0, ("rows", []))),
                (shows_exchange, (plan, 0, ("always", []))), (moves, (plan,)), (shows_moves, (plan, [], plan)),
                (cheapest, (plan, prices)), (cases_of_offer, (plan, order, ONE)), (offer_stands, (plan, order, ONE)),
                (mends, (claim, [])), (needed_rules, (claim,)), (Desk, ()),
            ]:
                self.refused(BadClaim, {"why": "shape"}, call, shape, *given)
            self.refused(BadClaim, {"why": "shape"}, cheapest, shape, plan, prices, limit=0)


class CopiesTest(unittest.TestCase):
    SHAPE = Shape([A, B, ("a1", "number", False)], checks=[ONE, against("a", "<", "a1")], keys=[(("a",), ONE)])

    def test_one_two_and_three(self):
        for n in (1, 2, 3):
            told = copies(self.SHAPE, n)
            self.assertIs(type(told), Shape)
            columns = []
            for i in range(1, n + 1):
                columns += [(f"a{i}", "number", False), (f"b{i}", "text", True), (f"a1{i}", "number", False)]
            checks = []
            for i in range(1, n + 1):
                checks += [compare(f"a{i}", "<", 1), against(f"a{i}", "<", f"a1{i}")]
            self.assertEqual(told, Shape(columns, checks=checks))
            self.assertEqual(told.unique_keys(), [])

    def test_the_largest_small_shape(self):
        names = ["abcdef" + letter for letter in "abcd"]
        wide = joined([compare(names[0], "<", at) for at in range(8)])
        shape = Shape([(name, "number", True) for name in names], checks=[wide] * 3, keys=[(names[:3], wide)] * 3)
        told = copies(shape, 3)
        self.assertEqual(len(told.names()), 12)
        self.assertEqual(len(told.checks()), 9)
        self.assertEqual(told.names()[-1], "abcdefd3")
        for key in shape.unique_keys():
            self.assertEqual(len(clash(key, 1, 3).atoms()), 19)

    def test_copy_test(self):
        test = against("a", "<", "a1", more=2) & ~(begins("b", "x") | sure(empty("a"))) & always()
        for i in (1, 2, 3):
            expected = against(f"a{i}", "<", f"a1{i}", more=2) & ~(begins(f"b{i}", "x") | sure(empty(f"a{i}"))) & always()
            self.assertEqual(copy_test(test, i), expected)
        self.assertEqual(copy_test(never(), 1), never())
        self.assertEqual(copy_test(among("a", [1, 2]), 3), among("a3", [1, 2]))

    def test_copy_test_with_names_that_look_like_copies(self):
        test = compare("a", "<", 1) & compare("a1", "<", 2) & compare("a11", "<", 3)
        self.assertEqual(copy_test(test, 1), compare("a1", "<", 1) & compare("a11", "<", 2) & compare("a111", "<", 3))

    def test_rows_of(self):
        rows = [{"a": at, "b": "x" * at, "a1": None} for at in range(3)]
        for n in (1, 2, 3):
            beside = {f"{name}{at + 1}": row[name] for at, row in enumerate(rows[:n]) for name in row}
            kept = dict(beside)
            told = rows_of(self.SHAPE, n, beside)
            self.assertIs(type(told), list)
            self.assertEqual(told, rows[:n])
            for row in told:
                row["a"] = 99
            self.assertEqual(beside, kept)
            self.assertEqual(rows_of(self.SHAPE, n, beside), rows[:n])


class BetweenTest(unittest.TestCase):
    def test_same(self):
        def one(x, i, j):
            return against(f"{x}{i}", "==", f"{x}{j}") | (empty(f"{x}{i}") & empty(f"{x}{j}"))

        for i, j in ((1, 2), (1, 3), (2, 3)):
            self.assertEqual(same([], i, j), always())
            self.assertEqual(same((), i, j), always())
            self.assertEqual(same(["a"], i, j), one("a", i, j))
            self.assertEqual(same(("b", "a"), i, j), one("b", i, j) & one("a", i, j))
            self.assertEqual(same(["a", "b", "c"], i, j), (one("a", i, j) & one("b", i, j)) & one("c", i, j))
            four = ((one("a", i, j) & one("b", i, j)) & one("c", i, j)) & one("d", i, j)
            self.assertEqual(same("abcd", i, j), four)

    def ahead_by(self, name, direction, i, j):
        x, y = f"{name}{i}", f"{name}{j}"
        if direction == "up":
            return (empty(x) & ~empty(y)) | against(x, "<", y)
        return (~empty(x) & empty(y)) | against(x, ">", y)

    def test_ahead(self):
        for i, j in ((1, 2), (1, 3), (2, 3)):
            for ways in itertools.product(("up", "down"), repeat=4):
                a, b, c, d = [self.ahead_by(name, way, i, j) for name, way in zip("abcd", ways)]
                order = tuple(zip("abcd", ways))
                sa, sb, sc = [same((name,), i, j) for name in "abc"]
                self.assertEqual(ahead(order[:1], i, j), a)
                self.assertEqual(ahead(order[:2], i, j), a | (sa & b))
                self.assertEqual(ahead(order[:3], i, j), a | (sa & (b | (sb & c))))
                self.assertEqual(ahead(order, i, j), a | (sa & (b | (sb & (c | (sc & d))))))
                self.assertEqual(ahead([list(part) for part in order], i, j), ahead(order, i, j))

    def test_clash(self):
        test = compare("a", "<", 1) | empty("b")
        a, b, c = [against(f"{name}1", "==", f"{name}3") for name in "abc"]
        one, other = copy_test(test, 1), copy_test(test, 3)
        self.assertEqual(clash((("a",), None), 1, 3), a)
        self.assertEqual(clash((("a", "b"), None), 1, 3), a & b)
        self.assertEqual(clash((("a", "b", "c"), None), 1, 3), (a & b) & c)
        self.assertEqual(clash((("a",), test), 1, 3), (one & other) & a)
        self.assertEqual(clash((("c", "b", "a"), test), 1, 3), (((one & other) & c) & b) & a)

    def test_their_truths(self):
        chance = random.Random(45)
        seen = {word: set() for word in ("same", "ahead", "turned", "clash")}
        for _ in range(400):
            shape = few_shape(chance, columns=chance.randint(1, 4))
            rows = [{name: chance.choice((None, 0, 1) if kind == "number" else (None, "", "a", "a ")) for name, kind, _ in shape.columns()} for _ in range(3)]
            beside = {f"{name}{at + 1}": row[name] for at, row in enumerate(rows) for name in row}
            order, key = few_order(chance, shape), few_key(chance, shape)
            names = [name for name, _ in order]
            for i, j in ((1, 2), (1, 3), (2, 3)):
                one, other = rows[i - 1], rows[j - 1]
                told = same(names, i, j).truth(beside)
                self.assertIs(told is True, alike_in(names, one, other))
                seen["same"].add(told)
                told = ahead(order, i, j).truth(beside)
                self.assertIs(told is True, comes_ahead(order, one, other))
                seen["ahead"].add(told)
                told = ahead(turned(order), i, j).truth(beside)
                self.assertIs(told is True, comes_ahead(order, other, one))
                seen["turned"].add(told)
                told = clash(key, i, j).truth(beside)
                keyed = Shape([(name, kind, False) for name, kind, _ in shape.columns()], keys=[key])
                self.assertIs(told is True, not may_stand(keyed, [one, other]))
                seen["clash"].add(told)
        for word, truths in seen.items():
            self.assertEqual(truths, {True, False, None}, word)

    def test_a_copied_test_at_the_row_of_its_copy(self):
        chance = random.Random(44)
        for _ in range(200):
            shape = few_shape(chance, columns=3)
            rows = [{name: chance.choice((None, 0, 1) if kind == "number" else (None, "", "a")) for name, kind, _ in shape.columns()} for _ in range(3)]
            beside = {f"{name}{at + 1}": row[name] for at, row in enumerate(rows) for name in row}
            test = few_test(chance, shape, 3)
            for i in (1, 2, 3):
                self.assertIs(copy_test(test, i).truth(beside), test.truth(rows[i - 1]))


def many_values(column, start):
    """A test of 8 atoms and 64 values, with 128 basic atoms."""
    return joined([among(column, [start + 100 * at + 2 * value for value in range(8)]) for at in range(8)])


class TooManyTest(unittest.TestCase, Refusals):
    SHAPE = Shape([("a", "number", False), ("b", "number", False)])
    HUGE = many_values("a", 0)

    def test_each_function_that_decides(self):
        plan = Plan([("keep", self.HUGE), ("first",)])
        claim = ("never", self.HUGE)
        prices = {word: 1 for word in ("keep", "sort", "distinct", "first", "flip")}
        for call, given in [
            (claim_holds, (claim,)), (shows_claim, (claim, ("rows", []))), (shows_claim, (claim, None)), (idle, (plan, 0)),
            (shows_idle, (plan, 0, None)), (may_exchange, (plan, 0)), (shows_exchange, (plan, 0, ("rows", []))),
            (moves, (plan,)), (shows_moves, (plan, [("drop", 0)], plan)), (cheapest, (plan, prices)),
            (offer_stands, (Plan([("keep", ONE), ("sort", [("a", "up")])]), [("a", "up")], self.HUGE)),
            (mends, (claim, [])), (needed_rules, (claim,)),
        ]:
            self.refused(TooMany, {"limit": 60}, call, self.SHAPE, *given)

    def test_cases_and_what_decides_nothing(self):
        claim = ("never", self.HUGE)
        self.assertEqual(cases_of(self.SHAPE, claim), [(1, [(copy_test(self.HUGE, 1), (True,))])])
        self.assertIs(breaks(self.SHAPE, claim, [{"a": 0, "b": None}]), True)
        plan = Plan([("keep", self.HUGE), ("first",)])
        self.assertEqual(len(cases_of_idle(self.SHAPE, plan, 0)), 1)
        self.assertEqual(len(cases_of_exchange(self.SHAPE, plan, 0)), 1)
        self.assertIs(can_stand(self.SHAPE, plan, 1, [{"a": 0, "b": None}]), True)

    def test_behind_the_errors_of_the_arguments(self):
        self.refused(BadClaim, {"why": "form"}, claim_holds, self.SHAPE, ("never", self.HUGE, self.HUGE))
        self.refused(BadClaim, {"why": "column"}, claim_holds, self.SHAPE, ("constant", self.HUGE, "z"))

    def test_60_and_61(self):
        # A value that is far from the others has two basic atoms, a bound has one.
        wide = joined([among("a", [100 * at + 2 * value for value in range(8)]) for at in range(3)])
        shape = Shape([("a", "number", False), ("b", "number", False)], checks=[wide])
        full = among("b", [10 * value for value in range(6)])
        for test in (full, full & compare("b", "<", 10), full | compare("a", "<", 200)):
            n, wants = cases_of(shape, ("never", test))[0]
            self.assertEqual(count_atoms(copies(shape, n), wants), 60)
            self.assertEqual(claim_holds(shape, ("never", test))[0], "rows")
        self.refused(TooMany, {"limit": 60}, claim_holds, shape, ("never", full & compare("b", "<", 5)))
        self.refused(TooMany, {"limit": 60}, claim_holds, shape, ("within", full, compare("a", "<", -5)))
        self.refused(TooMany, {"limit": 60}, claim_holds, shape, ("at_most_one", full))

    def test_ahead_of_deciding_any_case(self):
        # The first case of two has a row, but the second one has too many basic atoms.
        wide = joined([compare("a", "<", 3 * at) for at in range(8)])
        high = joined([compare("b", "<", 3 * at) for at in range(8)])
        shape = Shape([(name, "number", False) for name in "abcd"], checks=[wide, high])
        plan = Plan([("distinct", ("a", "b", "c")), ("flip",)])
        first, second = cases_of_exchange(shape, plan, 0)
        self.assertEqual((first[0], second[0]), (2, 3))
        self.assertLessEqual(count_atoms(copies(shape, 2), first[1]), 60)
        self.assertGreater(count_atoms(copies(shape, 3), second[1]), 60)
        self.assertEqual(find_row(copies(shape, 2), first[1])[0], "row")
        self.refused(TooMany, {"limit": 60}, may_exchange, shape, plan, 0)
        self.refused(TooMany, {"limit": 60}, shows_exchange, shape, plan, 0, ("rows", []))


if __name__ == "__main__":
    unittest.main()
