"""Points [51] to [54]: plans and their steps, what they make of rows, and which rows can stand ahead of a step."""

import itertools
import random
import unittest

from tests.helper import Refusals, joined, odd_things
from tests.small import deepened, few_plan, few_shape, few_tables, large_shapes
from tests.test_claims import as_lists, no_sequences, tuples_alone
from tworows.errors import BadClaim, BadPlan, BadTable
from tworows.logic import always, begins, compare, empty, never, sure
from tworows.orders import alike_in, comes_ahead, sort_rows, turned
from tworows.plans import Plan, can_stand, run, run_step, standing_order
from tworows.shapes import Shape

T = compare("a", "<", 1)
STEPS = [
    ("keep", T), ("sort", (("a", "up"), ("b", "down"))), ("distinct", ("a", "b")), ("distinct", ()), ("first",), ("flip",),
]
SHAPE = Shape([("a", "number", False), ("b", "text", False)])


def rows_of_pairs(*pairs):
    return [{"a": a, "b": b} for a, b in pairs]


class MadeTest(unittest.TestCase, Refusals):
    def bad(self, at, thing):
        self.refused(BadPlan, {"why": "steps", "at": at}, Plan, thing)

    def test_lists_and_tuples(self):
        for thing in (STEPS[:5], tuple(STEPS[:5]), [list(step) for step in STEPS[:5]], as_lists(tuple(STEPS[:5]))):
            told = Plan(thing).steps()
            self.assertIs(type(told), list)
            self.assertEqual(told, STEPS[:5])
            self.assertTrue(all(tuples_alone(step) for step in told))

    def test_5_and_6_steps(self):
        for many in range(6):
            self.assertEqual(len(Plan([("flip",)] * many)), many)
            self.assertEqual(Plan((("flip",),) * many).steps(), [("flip",)] * many)
        self.bad(-1, [("flip",)] * 6)
        self.bad(-1, [None] * 6)

    def test_no_sequence(self):
        for thing in no_sequences(odd_things()) + ["", "first", {}, {"first": 1}, T, SHAPE, Plan([]), 5]:
            self.bad(-1, thing)

    def test_no_step(self):
        wrong = odd_things() + [
            "first", "flip", (), [], ("x",), ("First",), ("first", None), ("flip", ()), ("keep",), ("keep", T, T), ("sort",), ("distinct",),
            ("distinct", "a", "b"), {"first": 1}, T, Plan([]), (("first",),), ("keep", "a < 1"), ("keep", None), ("sort", []), ("sort", "a up"),
            ("sort", [("a", "Up")]), ("sort", [("a", "up")] * 2), ("sort", [(name, "up") for name in "abcd"]), ("distinct", None), ("distinct", "a"),
            ("distinct", ["a", "a"]), ("distinct", list("abcd")), ("distinct", ["A"]), ("distinct", [["a"]]), ("distinct", [1]), ["first", "first"],
        ]
        for step in wrong:
            self.bad(0, [step])
            self.bad(2, (STEPS[0], STEPS[1], step, STEPS[2]))
            self.bad(1, [STEPS[0], step, step])
        for thing in odd_things():
            self.bad(0, [(thing,)])
            self.bad(1, [STEPS[4], ("keep", thing)])
            self.bad(1, [STEPS[4], ("sort", thing)])
            self.bad(1, [STEPS[4], ("sort", [("a", "up"), thing])])
            self.bad(1, [STEPS[4], ("distinct", ["a", thing])])
            self.bad(1, [STEPS[4], (thing, T)])
            if not isinstance(thing, (list, tuple)):
                self.bad(1, [STEPS[4], ("distinct", thing)])

    def test_three_names_and_three_parts(self):
        plan = Plan([("distinct", ["a", "b", "c"]), ("sort", [(name, "up") for name in "abc"])])
        self.assertEqual(len(plan), 2)

    def test_equal_plans(self):
        for one, other in itertools.product(range(6), range(6)):
            left, right = Plan([STEPS[one]]), Plan([list(STEPS[other])])
            self.assertIs(left == right, one == other)
            self.assertIs(left != right, one != other)
        self.assertEqual(Plan(STEPS[:3]), Plan(tuple(STEPS[:3])))
        self.assertNotEqual(Plan(STEPS[:3]), Plan(STEPS[:2]))
        self.assertNotEqual(Plan(STEPS[:2]), Plan(STEPS[1::-1]))
        self.assertEqual(Plan([]), Plan(()))
        self.assertNotEqual(Plan([("sort", [("a", "up")])]), Plan([("sort", [("a", "down")])]))
        self.assertNotEqual(Plan([("distinct", ["a", "b"])]), Plan([("distinct", ["b", "a"])]))
        self.assertNotEqual(Plan([("keep", T)]), Plan([("keep", sure(T))]))

    def test_a_plan_equals_nothing_else(self):
        for plan in (Plan([]), Plan(STEPS[:2])):
            for thing in odd_things() + [[], plan.steps(), tuple(plan.steps()), T, SHAPE, "", 0]:
                self.assertIs(plan == thing, False)
                self.assertIs(plan != thing, True)

    def test_nothing_is_shared(self):
        names, order, step = ["a"], [["a", "up"]], ["flip"]
        given = [["distinct", names], ["sort", order], step]
        plan = Plan(given)
        names.append("b")
        order[0][1] = "down"
        step[0] = "first"
        given.clear()
        expected = [("distinct", ("a",)), ("sort", (("a", "up"),)), ("flip",)]
        self.assertEqual(plan.steps(), expected)
        plan.steps().clear()
        self.assertEqual(plan.steps(), expected)
        self.assertEqual(len(plan), 3)


class StepTest(unittest.TestCase):
    ROWS = rows_of_pairs((2, "x"), (None, "x"), (0, None), (2, "x"), (0, "y"), (None, "x"), (0, None), (None, None))

    def step(self, step, rows, expected):
        kept = [dict(row) for row in rows]
        for thing in (step, as_lists(step)):
            told = run_step(thing, rows)
            self.assertIs(type(told), list)
            self.assertEqual(told, expected)
            for row in told:
                row["a"] = 99
            told.append(None)
            self.assertEqual(rows, kept)

    def picked(self, *places):
        return [self.ROWS[at] for at in places]

    def test_keep(self):
        self.step(("keep", T), self.ROWS, self.picked(2, 4, 6))
        self.step(("keep", ~T), self.ROWS, self.picked(0, 3))
        self.step(("keep", always()), self.ROWS, self.ROWS)
        self.step(("keep", never()), self.ROWS, [])
        self.step(("keep", empty("a")), self.ROWS, self.picked(1, 5, 7))

    def test_sort(self):
        self.step(("sort", (("a", "up"),)), self.ROWS, self.picked(1, 5, 7, 2, 4, 6, 0, 3))
        self.step(("sort", (("a", "down"),)), self.ROWS, self.picked(0, 3, 2, 4, 6, 1, 5, 7))
        self.step(("sort", (("b", "down"), ("a", "up"))), self.ROWS, self.picked(4, 1, 5, 0, 3, 7, 2, 6))

    def test_distinct(self):
        self.step(("distinct", ("a",)), self.ROWS, self.picked(0, 1, 2))
        self.step(("distinct", ("b",)), self.ROWS, self.picked(0, 2, 4))
        self.step(("distinct", ("a", "b")), self.ROWS, self.picked(0, 1, 2, 4, 7))
        self.step(("distinct", ("b", "a")), self.ROWS, self.picked(0, 1, 2, 4, 7))
        self.step(("distinct", ()), self.ROWS, self.picked(0))

    def test_first_and_flip(self):
        self.step(("first",), self.ROWS, self.picked(0))
        self.step(("flip",), self.ROWS, self.ROWS[::-1])

    def test_no_rows_and_one_row(self):
        for step in STEPS:
            self.step(step, [], [])
        for step in STEPS[1:]:
            self.step(step, self.ROWS[:1], self.ROWS[:1])

    def test_by_the_words_of_the_document(self):
        chance = random.Random(52)
        for _ in range(300):
            rows = [{"a": chance.choice((None, 0, 1)), "b": chance.choice((None, "", "a"))} for _ in range(chance.randint(0, 6))]
            names = chance.sample("ab", chance.randint(0, 2))
            expected = [row for at, row in enumerate(rows) if not any(alike_in(names, row, other) for other in rows[:at])]
            self.step(("distinct", tuple(names)), rows, expected)
            order = tuple((name, chance.choice(("up", "down"))) for name in chance.sample("ab", chance.randint(1, 2)))
            self.step(("sort", order), rows, sort_rows(order, rows))


class RunTest(unittest.TestCase, Refusals):
    ROWS = rows_of_pairs((2, "x"), (None, "y"), (0, None), (5, "x"))

    def test_steps_one_behind_the_other(self):
        for steps, places in [
            ([], (0, 1, 2, 3)), ([("flip",)], (3, 2, 1, 0)), ([("sort", [("a", "up")]), ("first",)], (1,)),
            ([("keep", ~empty("a")), ("sort", [("a", "down")]), ("distinct", ["b"])], (3, 2)),
            ([("distinct", ["b"]), ("keep", ~empty("a")), ("sort", [("a", "down")])], (0, 2)),
            ([("flip",), ("first",), ("flip",), ("distinct", []), ("sort", [("b", "up")])], (3,)),
        ]:
            for table in (self.ROWS, tuple(self.ROWS)):
                told = run(SHAPE, Plan(steps), table)
                self.assertIs(type(told), list)
                self.assertEqual(told, [self.ROWS[at] for at in places])

    def test_each_row_is_new(self):
        rows = [dict(row) for row in self.ROWS]
        for steps in ([], [("keep", always())], [("sort", [("a", "up")])], [("distinct", ["a"])], [("first",)], [("flip",)], STEPS[:5]):
            told = run(SHAPE, Plan(steps), rows)
            for row in told:
                row["a"] = row["z"] = 77
            self.assertEqual(rows, self.ROWS)

    def test_each_plan_is_its_steps(self):
        chance = random.Random(521)
        for _ in range(150):
            shape = few_shape(chance)
            plan = few_plan(chance, shape)
            for table in few_tables(shape, 2)[::5]:
                rows = table
                for step in plan.steps():
                    rows = run_step(step, rows)
                self.assertEqual(run(shape, plan, table), rows)

    def test_no_plan(self):
        for thing in odd_things() + [STEPS, [], "first", SHAPE, T]:
            self.refused(BadPlan, {"why": "plan", "at": -1}, run, SHAPE, thing, None)

    def test_a_step_that_does_not_fit(self):
        wrong = [
            ("keep", empty("z")), ("keep", compare("a", "<", "x")), ("keep", begins("a", "x")), ("sort", [("z", "up")]),
            ("sort", [("a", "up"), ("b", "up"), ("z", "up")]), ("distinct", ["z"]), ("distinct", ["a", "z"]),
        ]
        for step in wrong:
            for at in range(4):
                plan = Plan(STEPS[:at] + [step] + wrong[:1])
                for table in (self.ROWS, None, [None]):
                    self.refused(BadPlan, {"why": "shape", "at": at}, run, SHAPE, plan, table)

    def test_what_check_table_raises(self):
        plan = Plan([("first",)])
        for thing in no_sequences(odd_things()) + [self.ROWS[0], "x", [{"a": 1, "b": ""}] * 61]:
            self.refused(BadTable, {"why": "rows", "at": -1}, run, SHAPE, plan, thing)
        for thing in odd_things() + [{"a": 1}, {"a": "x", "b": "y"}, {"a": 1, "b": "", "c": 1}]:
            self.refused(BadTable, {"why": "rows", "at": 1}, run, SHAPE, plan, [self.ROWS[0], thing])
        strict = Shape([("a", "number", True), ("b", "text", False)], checks=[compare("a", "<", 5)], keys=[(["b"], None)])
        for why, at, rows in [
            ("filled", 1, [(1, "x"), (None, "y"), (7, "z")]), ("check", 1, [(1, "x"), (5, "y")]), ("key", 2, [(1, "x"), (1, "y"), (2, "x")]),
        ]:
            self.refused(BadTable, {"why": why, "at": at}, run, strict, plan, rows_of_pairs(*rows))

    def test_a_large_shape(self):
        for shape in large_shapes():
            row = {name: None for name in shape.names()}
            self.assertEqual(run(shape, Plan([("flip",)]), [row]), [row])
        wide = joined([T] * 20)
        self.assertEqual(run(SHAPE, Plan([("keep", wide)]), self.ROWS), self.ROWS[2:3])
        self.assertEqual(len(run(SHAPE, Plan([]), [{"a": 1, "b": ""}] * 60)), 60)


class StandingTest(unittest.TestCase):
    """Point [53]."""

    def order(self, steps, i, expected):
        told = standing_order(Plan(steps), i)
        self.assertEqual(told, tuple(tuple(part) for part in expected))
        self.assertIs(type(told), tuple)
        self.assertTrue(tuples_alone(told))

    def test_no_sort_ahead(self):
        for steps in ([], [("flip",)], [("first",), ("keep", T), ("distinct", ["a"]), ("flip",)]):
            for i in range(len(steps) + 1):
                self.order(steps, i, ())
        self.order([("sort", [("a", "up")])], 0, ())

    def test_one_sort(self):
        order = [("a", "up"), ("b", "down")]
        steps = [("keep", T), ("sort", order), ("first",), ("keep", T), ("distinct", ["a"])]
        for i in range(6):
            self.order(steps, i, order if i > 1 else ())

    def test_flips(self):
        up, down = [("a", "up"), ("b", "down")], [("a", "down"), ("b", "up")]
        self.order([("flip",), ("sort", up)], 2, up)
        self.order([("sort", up), ("flip",)], 1, up)
        self.order([("sort", up), ("flip",)], 2, down)
        self.order([("sort", up), ("flip",), ("flip",)], 3, up)
        self.order([("sort", up), ("flip",), ("keep", T), ("flip",), ("flip",)], 5, down)

    def test_several_sorts(self):
        self.order([("sort", [("a", "up")]), ("sort", [("b", "up")])], 2, [("b", "up"), ("a", "up")])
        self.order([("sort", [("a", "up"), ("b", "up")]), ("sort", [("b", "down")])], 2, [("b", "down"), ("a", "up")])
        self.order([("sort", [("a", "up")]), ("sort", [("a", "down")])], 2, [("a", "down")])
        self.order(
            [("sort", [("a", "up"), ("b", "up"), ("c", "up")]), ("sort", [("d", "up"), ("b", "down")]), ("sort", [("c", "down")])], 3,
            [("c", "down"), ("d", "up"), ("b", "down"), ("a", "up")],
        )

    def test_flips_between_sorts(self):
        steps = [("sort", [("a", "up"), ("b", "up")]), ("flip",), ("sort", [("b", "up")]), ("flip",), ("sort", [("c", "down")])]
        self.order(steps, 1, [("a", "up"), ("b", "up")])
        self.order(steps, 2, [("a", "down"), ("b", "down")])
        self.order(steps, 3, [("b", "up"), ("a", "down")])
        self.order(steps, 4, [("b", "down"), ("a", "up")])
        self.order(steps, 5, [("c", "down"), ("b", "down"), ("a", "up")])
        self.order([("flip",)] + steps[:4], 5, [("b", "down"), ("a", "up")])

    def test_many_columns(self):
        steps = [("sort", [(f"c{3 * at + k}", "up") for k in range(3)]) for at in range(5)]
        self.order(steps, 5, [(f"c{3 * at + k}", "up") for at in reversed(range(5)) for k in range(3)])

    def test_by_the_words_of_the_document(self):
        chance = random.Random(53)
        for _ in range(300):
            plan = few_plan(chance, few_shape(chance, columns=4), words=("sort", "sort", "flip"))
            for i in range(len(plan) + 1):
                expected = []
                for at in reversed(range(i)):
                    step = plan.steps()[at]
                    if step[0] == "sort":
                        flips = plan.steps()[at:i].count(("flip",))
                        for part in turned(step[1]) if flips % 2 else step[1]:
                            if part[0] not in [name for name, _ in expected]:
                                expected.append(part)
                self.order(plan.steps(), i, expected)


class CanStandTest(unittest.TestCase, Refusals):
    """Point [54]."""

    STRICT = Shape([("a", "number", True), ("b", "text", False)], checks=[compare("a", "<", 9)], keys=[(["b"], None)])

    def stands(self, expected, steps, rows, shape=SHAPE):
        plan = Plan(steps)
        self.assertIs(can_stand(shape, plan, len(plan), rows), expected)
        self.assertIs(can_stand(shape, plan, len(plan), tuple(rows)), expected)
        longer = Plan(steps + [("keep", never())])
        self.assertIs(can_stand(shape, longer, len(plan), rows), expected)

    def test_the_rules_of_the_shape(self):
        for rows, expected in [
            (rows_of_pairs((1, "x"), (1, "y")), True), ([], True), (rows_of_pairs((None, "x")), False), (rows_of_pairs((9, "x")), False),
            (rows_of_pairs((1, "x"), (2, "x")), False), (rows_of_pairs((1, None), (1, None)), True),
        ]:
            self.stands(expected, [], rows, self.STRICT)
            self.stands(expected, [("flip",)], rows, self.STRICT)
        self.stands(True, [], [{"a": 1, "b": ""}] * 60)
        self.stands(False, [], [{"a": 1, "b": ""}] * 61)

    def test_keep(self):
        for value, expected in ((0, True), (1, False), (None, False)):
            self.stands(expected, [("keep", T)], rows_of_pairs((0, ""), (value, "x")))
            self.stands(expected, [("flip",), ("keep", T), ("flip",)], rows_of_pairs((0, ""), (value, "x")))
        self.stands(False, [("keep", T), ("keep", ~T)], rows_of_pairs((0, "")))
        self.stands(True, [("keep", T), ("keep", ~T)], [])

    def test_distinct(self):
        self.stands(True, [("distinct", ["a"])], rows_of_pairs((0, ""), (1, ""), (None, "")))
        self.stands(False, [("distinct", ["b"])], rows_of_pairs((0, ""), (1, "")))
        self.stands(False, [("distinct", ["a"])], rows_of_pairs((None, ""), (1, ""), (None, "x")))
        self.stands(True, [("distinct", ["a", "b"])], rows_of_pairs((None, ""), (1, ""), (None, "x")))
        self.stands(False, [("distinct", ["a"]), ("flip",), ("distinct", ["b"])], rows_of_pairs((0, ""), (1, "")))

    def test_at_most_one_row(self):
        one, two = rows_of_pairs((0, "")), rows_of_pairs((0, ""), (1, "x"))
        for step in (("first",), ("distinct", [])):
            self.stands(True, [step, ("flip",)], one)
            self.stands(True, [step], [])
            self.stands(False, [step], two)
            self.stands(False, [("flip",), step, ("keep", always())], two)

    def test_sorted(self):
        rows = rows_of_pairs((None, "x"), (0, "y"), (0, "x"), (5, None))
        self.stands(True, [("sort", [("a", "up")])], rows)
        self.stands(False, [("sort", [("a", "down")])], rows)
        self.stands(True, [("sort", [("a", "down")]), ("flip",)], rows)
        self.stands(True, [("sort", [("b", "down")]), ("sort", [("a", "up")])], rows)
        self.stands(False, [("sort", [("b", "up")]), ("sort", [("a", "up")])], rows)
        self.stands(False, [("sort", [("a", "up")]), ("sort", [("b", "up")])], rows)
        self.stands(False, [("sort", [("a", "up")])], rows_of_pairs((1, ""), (2, ""), (3, ""), (0, "")))
        self.stands(True, [("sort", [("a", "up")]), ("keep", always())], [rows[1], rows[2], rows[1]])

    def test_steps_from_i_on_do_not_matter(self):
        plan = Plan([("flip",), ("keep", T), ("first",)])
        rows = rows_of_pairs((5, ""), (6, ""))
        self.assertEqual([can_stand(SHAPE, plan, i, rows) for i in range(4)], [True, True, False, False])
        rows = rows_of_pairs((0, ""), (0, ""))
        self.assertEqual([can_stand(SHAPE, plan, i, rows) for i in range(4)], [True, True, True, False])

    def test_what_is_no_table(self):
        for thing in odd_things() + ["", {}, {"a": 1, "b": ""}, 5, T, Plan([]), SHAPE]:
            if thing not in ([], ()):
                self.assertIs(can_stand(SHAPE, Plan([]), 0, thing), False)
        for thing in odd_things() + [{"a": 1}, {"a": "1", "b": ""}, {"a": True, "b": ""}, {"a": 1, "b": "", "c": None}]:
            self.assertIs(can_stand(SHAPE, Plan([]), 0, [{"a": 1, "b": ""}, thing]), False)

    def test_the_index(self):
        plan = Plan([("flip",)] * 3)
        for i in range(4):
            self.assertIs(can_stand(SHAPE, plan, i, []), True)
        for i in [-1, 4, 10 ** 30, "0", [0]] + odd_things():
            self.refused(BadPlan, {"why": "index", "at": -1}, can_stand, SHAPE, plan, i, None)
        self.refused(BadPlan, {"why": "index", "at": -1}, can_stand, SHAPE, Plan([]), 1, [])
        self.assertIs(can_stand(SHAPE, Plan([]), 0, []), True)

    def test_the_errors_in_their_order(self):
        wide, deep, strange = ("keep", joined([T] * 9)), ("keep", deepened(T, 9)), ("keep", joined([empty("z")] * 9))
        for shape in large_shapes():
            self.refused(BadClaim, {"why": "shape"}, can_stand, shape, None, None, None)
        for thing in odd_things() + [STEPS, [], SHAPE]:
            self.refused(BadPlan, {"why": "plan", "at": -1}, can_stand, SHAPE, thing, None, None)
        for why, at, steps in [
            ("shape", 0, [("sort", [("z", "up")]), wide]), ("large", 0, [wide, ("sort", [("z", "up")])]), ("large", 1, [("flip",), deep, strange]),
            ("shape", 1, [("flip",), strange, deep]), ("shape", 2, [("keep", joined([T] * 8)), ("keep", deepened(T, 8)), ("distinct", ["a", "z"]), wide]),
        ]:
            for i in (0, None, 99):
                self.refused(BadPlan, {"why": why, "at": at}, can_stand, SHAPE, Plan(steps), i, [])
        self.assertIs(can_stand(SHAPE, Plan([("keep", joined([T] * 8)), ("keep", deepened(T, 8))]), 2, []), True)

    def test_what_comes_to_a_step_can_stand_there(self):
        chance = random.Random(54)
        words = {True: 0, False: 0}
        for _ in range(120):
            shape = few_shape(chance)
            plan = few_plan(chance, shape, most=4)
            i = chance.randint(0, len(plan))
            tables = few_tables(shape, 2)
            coming = [run(shape, Plan(plan.steps()[:i]), table) for table in tables]
            for table in tables[::3]:
                told = can_stand(shape, plan, i, table)
                words[told] += 1
                source = table[::-1] if plan.steps()[:i].count(("flip",)) % 2 else table
                self.assertIs(told, run(shape, Plan(plan.steps()[:i]), source) == table)
                self.assertIs(told, table in coming)
            for rows in coming[::3]:
                self.assertIs(can_stand(shape, plan, i, rows), True)
        self.assertGreater(min(words.values()), 500)

    def test_sorted_by_the_words_of_the_document(self):
        chance = random.Random(541)
        for _ in range(200):
            shape = few_shape(chance, checks=0, keys=0)
            plan = few_plan(chance, shape, words=("sort", "flip"))
            rows = [{name: chance.choice((None, 1) if kind == "number" else (None, "")) for name, kind, _ in shape.columns()} for _ in range(3)]
            plain = Shape([(name, kind, False) for name, kind, _ in shape.columns()])
            order = standing_order(plan, len(plan))
            expected = not any(comes_ahead(order, other, row) for row, other in itertools.combinations(rows, 2))
            self.assertIs(can_stand(plain, plan, len(plan), rows), expected)


if __name__ == "__main__":
    unittest.main()
