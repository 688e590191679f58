"""Points [55] to [59]: idle steps, exchanges, their cases, and what shows them."""

import itertools
import random
import unittest

from tests.helper import Refusals, joined, odd_things
from tests.small import deepened, few_plan, few_shape, few_step, few_tables
from tests.test_claims import no_sequences
from tworows.errors import BadClaim, BadPlan
from tworows.logic import always, among, compare, empty, never
from tworows.orders import turned
from tworows.pairs import ahead, clash, copies, copy_test, same
from tworows.plans import (
    Plan, can_stand, cases_of_exchange, cases_of_idle, idle, may_exchange, run_step, shows_exchange, shows_idle,
    standing_order,
)
from tworows.shapes import Shape
from tworows.trees import shows_none
from tworows.wants import count_atoms

T, U = compare("a", "<", 1), empty("b")
O, P = (("a", "up"), ("b", "down")), (("c", "down"),)
KEYS = [(("a",), None), (("c", "b"), T)]
SHAPE = Shape([("a", "number", False), ("b", "text", False), ("c", "number", False)], checks=[~U], keys=KEYS)
PLAIN = Shape(SHAPE.columns())
ALL = ("a", "b", "c")
YES, NOT = (True,), (False, None)
STEPS = [("keep", T), ("sort", O), ("distinct", ("a",)), ("distinct", ()), ("first",), ("flip",)]
ABOUT_IDLE = [(cases_of_idle, ()), (idle, ()), (shows_idle, (None,))]
ABOUT_EXCHANGE = [(cases_of_exchange, ()), (may_exchange, ()), (shows_exchange, (None,))]


def flat(case):
    """A case with a tuple of wants."""
    return case[0], tuple(case[1])


class ErrorsTest(unittest.TestCase, Refusals):
    """Point [55]."""

    def bad(self, kind, told, shape, plan, i):
        for call, more in ABOUT_IDLE + ABOUT_EXCHANGE:
            self.refused(kind, told, call, shape, plan, i, *more)

    def test_in_their_order(self):
        wide, deep, strange = ("keep", joined([T] * 9)), ("keep", deepened(T, 9)), ("keep", joined([empty("z")] * 9))
        large = Shape([(name, "number", False) for name in "abcde"])
        self.bad(BadClaim, {"why": "shape"}, large, None, None)
        for thing in odd_things() + [STEPS, SHAPE, T, "first"]:
            self.bad(BadPlan, {"why": "plan", "at": -1}, SHAPE, thing, None)
        for why, at, steps in [
            ("shape", 0, [("sort", [("z", "up")]), wide]), ("large", 0, [wide, ("sort", [("z", "up")])]), ("large", 1, [("flip",), deep, strange]),
            ("shape", 1, [("flip",), strange, deep]), ("shape", 1, [("flip",), ("keep", compare("a", "<", "x")), deep]),
            ("shape", 3, [("flip",)] * 3 + [("distinct", ["a", "z"]), wide]), ("shape", 0, [("distinct", ["z"]), wide]),
        ]:
            for i in (0, 1, None, 99, -1):
                self.bad(BadPlan, {"why": why, "at": at}, SHAPE, Plan(steps), i)

    def test_the_index(self):
        for many in range(6):
            plan = Plan([("flip",)] * many)
            for behind, calls in ((1, ABOUT_IDLE), (2, ABOUT_EXCHANGE)):
                for call, more in calls:
                    for i in [-1, many - behind + 1, many, many + 1, 10 ** 30] + odd_things():
                        self.refused(BadPlan, {"why": "index", "at": -1}, call, SHAPE, plan, i, *more)
                    for i in range(many - behind + 1):
                        call(SHAPE, plan, i, *more)

    def test_tests_of_8_atoms_and_8_levels(self):
        plan = Plan([("keep", joined([T] * 8)), ("keep", deepened(T, 8))])
        self.assertEqual(len(cases_of_idle(SHAPE, plan, 1)), 1)
        self.assertEqual(cases_of_exchange(SHAPE, plan, 0), [])


class CasesTest(unittest.TestCase):
    """Points [56], [57] and [58]: the wants in the document's order."""

    def pair(self, shape, i, j, distincts=(), order=()):
        wants = [(clash(key, i, j), NOT) for key in shape.unique_keys()]
        wants += [(same(names, i, j), NOT) for names in distincts]
        return wants + ([(ahead(turned(order), i, j), NOT)] if order else [])

    def ahead_of(self, shape, n, keeps=(), distincts=(), order=(), single=False):
        wants = [(never(), YES)] if single and n > 1 else []
        wants += [(copy_test(test, i), YES) for i in range(1, n + 1) for test in keeps]
        for i, j in ((1, 2), (1, 3), (2, 3)):
            if j <= n:
                wants += self.pair(shape, i, j, distincts, order)
        return wants

    def own_idle(self, shape, step):
        if step[0] == "keep":
            return 1, [(copy_test(step[1], 1), NOT)]
        if step[0] == "sort":
            return 2, [(ahead(turned(step[1]), 1, 2), YES)]
        if step[0] == "distinct":
            return 2, [(same(step[1], 1, 2), YES)]
        return 2, [] if step[0] == "first" else [(same(shape.names(), 1, 2), NOT)]

    def told(self, cases, expected):
        self.assertIs(type(cases), list)
        for n, wants in cases:
            self.assertIs(type(wants), list)
            for want in wants:
                self.assertEqual((type(want), len(want), type(want[1])), (tuple, 2, tuple))
        self.assertTrue(all(type(case) is tuple and len(case) == 2 for case in cases))
        self.assertEqual(cases, expected)

    AHEAD = [
        ([], {}),
        ([("keep", T)], {"keeps": [T]}),
        ([("keep", T), ("flip",), ("keep", U)], {"keeps": [T, U]}),
        ([("distinct", ("a",)), ("distinct", ("c", "b"))], {"distincts": [("a",), ("c", "b")]}),
        ([("sort", O)], {"order": O}),
        ([("sort", O), ("flip",)], {"order": turned(O)}),
        ([("sort", O), ("flip",), ("sort", P)], {"order": P + turned(O)}),
        ([("distinct", ("b",)), ("keep", U), ("sort", P), ("keep", T)], {"keeps": [U, T], "distincts": [("b",)], "order": P}),
        ([("first",)], {"single": True}),
        ([("distinct", ())], {"single": True, "distincts": [()]}),
        ([("keep", T), ("sort", P), ("distinct", ()), ("first",)], {"keeps": [T], "order": P, "distincts": [()], "single": True}),
    ]

    def test_idle(self):
        for shape in (PLAIN, SHAPE):
            for steps, known in self.AHEAD:
                for step in STEPS:
                    n, own = self.own_idle(shape, step)
                    expected = [(n, self.ahead_of(shape, n, **known) + own)]
                    self.told(cases_of_idle(shape, Plan(steps + [step]), len(steps)), expected)
                    if len(steps) < 4:
                        self.told(cases_of_idle(shape, Plan(steps + [step, ("keep", never())]), len(steps)), expected)

    def own_exchange(self, shape, one, other):
        """The own cases of two steps in this order, by the list of point [58]; None if they stand the other way there."""
        everything = tuple(shape.names())
        words = (one[0], other[0])
        empty_list = [("keep", "keep"), ("keep", "sort"), ("keep", "flip"), ("distinct", "first"), ("first", "first"), ("flip", "flip")]
        if words in empty_list:
            return []
        if words == ("keep", "distinct"):
            return [(2, [(same(other[1], 1, 2), YES), (copy_test(one[1], 1), NOT), (copy_test(one[1], 2), YES)])]
        if words == ("keep", "first"):
            return [(2, [(copy_test(one[1], 1), NOT), (copy_test(one[1], 2), YES)])]
        if words == ("sort", "sort"):
            o, p = one[1], other[1]
            first = [(ahead(o, 1, 2), YES), (ahead(turned(p), 1, 2), YES)]
            return [(2, first), (2, [(ahead(turned(o), 1, 2), YES), (ahead(p, 1, 2), YES)])]
        if words == ("sort", "distinct"):
            return [(2, [(same(other[1], 1, 2), YES), (ahead(turned(one[1]), 1, 2), YES)])]
        if words == ("sort", "first"):
            return [(2, [(ahead(turned(one[1]), 1, 2), YES)])]
        if words == ("sort", "flip"):
            return [(2, [(same(tuple(name for name, _ in one[1]), 1, 2), NOT)])]
        if words == ("flip", "first"):
            return [(2, [(same(everything, 1, 2), NOT)])]
        if words == ("distinct", "flip"):
            second = [(same(one[1], 1, 3), YES), (same(one[1], 1, 2), NOT)]
            return [(2, [(same(one[1], 1, 2), YES), (same(everything, 1, 2), NOT)]), (3, second)]
        if words == ("distinct", "distinct"):
            return [
                (3, [(same(xs, 1, 2), YES), (same(ys, 2, 3), YES), (same(xs, 1, 3), NOT), (same(ys, 1, 3), NOT)])
                for xs, ys in ((one[1], other[1]), (other[1], one[1]))
            ]
        return None

    def test_exchange(self):
        steps = STEPS + [("keep", U), ("sort", P), ("distinct", ("c", "b"))]
        for shape in (PLAIN, SHAPE):
            for before, known in self.AHEAD:
                if len(before) > 3:
                    continue
                for one, other in itertools.product(steps, steps):
                    own = self.own_exchange(shape, one, other)
                    if own is None:
                        own = self.own_exchange(shape, other, one)
                    expected = [(n, self.ahead_of(shape, n, **known) + wants) for n, wants in own]
                    self.told(cases_of_exchange(shape, Plan(before + [one, other]), len(before)), expected)

    def test_each_two_words_are_listed_in_one_order(self):
        for one, other in itertools.product(STEPS, STEPS):
            first, second = self.own_exchange(PLAIN, one, other), self.own_exchange(PLAIN, other, one)
            self.assertTrue((first is None) != (second is None) or one[0] == other[0])

    def test_new_lists(self):
        plan = Plan([("keep", T), ("first",)])
        for call in (cases_of_idle, cases_of_exchange):
            told = call(SHAPE, plan, 0)
            expected = [flat(case) for case in told]
            told[0][1].clear()
            told.clear()
            self.assertEqual([flat(case) for case in call(SHAPE, plan, 0)], expected)


class Decisions(unittest.TestCase):
    def looked_at(self, shape, plan, i, answer, cases, shows, changes):
        """An answer whose trees or rows are looked at."""
        self.assertEqual((type(answer), len(answer)), (tuple, 2))
        word, found = answer
        self.assertIs(type(found), list)
        self.assertIs(shows(shape, plan, i, answer), True)
        if word == "rows":
            self.assertIs(can_stand(shape, plan, i, found), True)
            self.assertTrue(changes(found))
            self.assertIn(len(found), [n for n, _ in cases])
        else:
            self.assertEqual((word, len(found)), ("always", len(cases)))
            for (n, wants), tree in zip(cases, found):
                self.assertIs(shows_none(copies(shape, n), wants, tree), True)
        return word

    def idle(self, shape, plan, i):
        return self.looked_at(
            shape, plan, i, idle(shape, plan, i), cases_of_idle(shape, plan, i), shows_idle,
            lambda rows: run_step(plan.steps()[i], rows) != rows,
        )

    def exchange(self, shape, plan, i):
        return self.looked_at(
            shape, plan, i, may_exchange(shape, plan, i), cases_of_exchange(shape, plan, i), shows_exchange,
            lambda rows: both(plan, i, rows, False) != both(plan, i, rows, True),
        )


def few_atoms(shape, cases):
    """Whether no case has too many basic atoms to be decided."""
    return all(count_atoms(copies(shape, n), wants) <= 60 for n, wants in cases)


def both(plan, i, rows, changed):
    """What steps i and i + 1 make of rows, in their order or changed about."""
    one, other = plan.steps()[i : i + 2]
    if changed:
        one, other = other, one
    return run_step(other, run_step(one, rows))


class IdleTest(Decisions):
    def says(self, word, steps, shape=PLAIN):
        self.assertEqual(self.idle(shape, Plan(steps), len(steps) - 1), word, steps)

    def test_keep(self):
        self.says("rows", [("keep", T)])
        self.says("always", [("keep", always())])
        self.says("always", [("keep", T), ("keep", compare("a", "<", 2))])
        self.says("rows", [("keep", compare("a", "<", 2)), ("keep", T)])
        self.says("always", [("keep", T), ("sort", O), ("flip",), ("keep", T)])
        self.says("always", [("keep", ~U)], SHAPE.with_filled("b"))
        self.says("always", [("keep", ~U)], SHAPE)
        self.says("always", [("keep", ~U | T)], SHAPE)
        self.says("rows", [("first",), ("keep", T)])

    def test_sort(self):
        self.says("rows", [("sort", O)])
        self.says("always", [("sort", O), ("sort", O)])
        self.says("always", [("sort", O), ("keep", T), ("distinct", ["b"]), ("sort", O[:1])])
        self.says("rows", [("sort", O[:1]), ("sort", O)])
        self.says("rows", [("sort", O), ("flip",), ("sort", O)])
        self.says("always", [("sort", O), ("flip",), ("sort", turned(O))])
        self.says("always", [("sort", O), ("flip",), ("flip",), ("sort", O)])
        self.says("always", [("first",), ("sort", O)])
        self.says("always", [("keep", compare("a", "==", 1)), ("sort", (("a", "up"),))])
        self.says("always", [("distinct", []), ("sort", O)])
        self.says("always", [("sort", (("a", "up"),)), ("sort", O)], Shape(PLAIN.columns(), keys=[(["a"], None)]).with_filled("a"))
        self.says("rows", [("sort", (("a", "up"),)), ("sort", O)], Shape(PLAIN.columns(), keys=[(["a"], None)]))

    def test_distinct(self):
        self.says("rows", [("distinct", ["a", "b", "c"])])
        self.says("always", [("distinct", ["a"]), ("distinct", ["b", "a"])])
        self.says("rows", [("distinct", ["b", "a"]), ("distinct", ["a"])])
        keyed = Shape(PLAIN.columns(), keys=[(["a"], None)])
        self.says("rows", [("distinct", ["a"])], keyed)
        self.says("always", [("distinct", ["a"])], keyed.with_filled("a"))
        self.says("always", [("keep", ~empty("a")), ("distinct", ["b", "a"])], keyed)
        self.says("always", [("first",), ("distinct", [])])
        self.says("rows", [("distinct", [])])

    def test_first_and_flip(self):
        self.says("rows", [("first",)])
        self.says("always", [("first",), ("first",)])
        self.says("always", [("distinct", []), ("flip",), ("first",)])
        self.says("always", [("keep", never()), ("first",)])
        self.says("rows", [("flip",)])
        self.says("always", [("first",), ("flip",)])
        same_rows = Shape([("a", "number", True)], checks=[compare("a", "==", 1)])
        self.says("always", [("flip",)], same_rows)
        self.says("rows", [("first",)], same_rows)
        self.says("always", [("first",)], Shape([("a", "number", True)], checks=[compare("a", "==", 1)], keys=[(["a"], None)]))
        self.says("always", [("sort", (("a", "up"),)), ("flip",)], same_rows)


class ExchangeTest(Decisions):
    def says(self, word, steps, i=0, shape=PLAIN):
        self.assertEqual(self.exchange(shape, Plan(steps), i), word, steps)

    def either(self, word, one, other, shape=PLAIN):
        self.says(word, [one, other], 0, shape)
        self.says(word, [other, one], 0, shape)

    def test_those_that_always_may(self):
        for one, other in [
            (("keep", T), ("keep", U)), (("keep", T), ("sort", O)), (("keep", T), ("flip",)), (("distinct", ["a"]), ("first",)),
            (("first",), ("first",)), (("flip",), ("flip",)), (("sort", O), ("sort", O)), (("distinct", ["a"]), ("distinct", ["a"])),
            (("keep", T), ("keep", T)), (("distinct", []), ("first",)), (("distinct", ["a"]), ("distinct", ["a", "b"])),
            (("distinct", ["a"]), ("distinct", [])),
        ]:
            self.either("always", one, other)

    def test_keep(self):
        self.either("rows", ("keep", T), ("distinct", ["b"]))
        self.either("always", ("keep", T), ("distinct", ["a"]))
        self.either("rows", ("keep", T), ("first",))
        self.either("always", ("keep", always()), ("first",))
        self.either("always", ("keep", never()), ("first",))
        self.either("always", ("keep", T), ("distinct", ["b"]), Shape(PLAIN.columns(), keys=[(["b"], None)]).with_filled("b"))

    def test_sort(self):
        self.either("rows", ("sort", O), ("sort", P))
        self.either("rows", ("sort", O), ("sort", turned(O)))
        self.either("always", ("sort", O), ("sort", O[:1]))
        self.either("rows", ("sort", O), ("distinct", ["a"]))
        self.either("always", ("sort", (("a", "up"),)), ("distinct", ["b", "a"]))
        self.either("rows", ("sort", O), ("first",))
        self.either("rows", ("sort", O), ("flip",))
        self.says("always", [("keep", compare("a", "==", 1)), ("sort", (("a", "up"),)), ("flip",)], 1)
        self.says("always", [("sort", O), ("sort", O), ("first",)], 1)

    def test_first_and_flip(self):
        self.either("rows", ("flip",), ("first",))
        self.either("rows", ("distinct", ["a"]), ("flip",))
        self.either("rows", ("distinct", ["a", "b", "c"]), ("flip",))
        self.either("rows", ("distinct", []), ("flip",))
        self.says("always", [("first",), ("flip",), ("first",)], 1)
        self.says("always", [("sort", (("a", "up"),)), ("distinct", ["a"]), ("flip",)], 1, Shape([("a", "number", False)]))
        keyed = Shape(PLAIN.columns(), keys=[(["a"], None)]).with_filled("a")
        self.either("always", ("distinct", ["b", "a"]), ("flip",), keyed)

    def test_distincts(self):
        self.either("rows", ("distinct", ["a"]), ("distinct", ["b"]))
        self.either("rows", ("distinct", ["a", "b"]), ("distinct", ["b", "c"]))
        self.either("always", ("distinct", ["a", "b"]), ("distinct", ["b", "a"]))
        self.says("always", [("distinct", ["a"]), ("distinct", ["a", "b"]), ("distinct", ["c"])], 1)
        self.says("always", [("keep", compare("a", "==", 1)), ("distinct", ["a", "b"]), ("distinct", ["b"])], 1)

    def test_three_rows_are_needed(self):
        word, rows = may_exchange(PLAIN, Plan([("distinct", ["a"]), ("distinct", ["b"])]), 0)
        self.assertEqual((word, len(rows)), ("rows", 3))
        shape = Shape([("a", "number", False)])
        word, rows = may_exchange(shape, Plan([("distinct", ["a"]), ("flip",)]), 0)
        self.assertEqual((word, len(rows)), ("rows", 3))


class ShortListsTest(Decisions):
    """What idle and may_exchange tell agrees with run_step on all short lists over few values."""

    def test_lists_of_up_to_three_rows(self):
        chance = random.Random(57)
        counts = {}
        for turn in range(90):
            shape = few_shape(chance, columns=chance.choice((1, 2, 2)), checks=2, keys=2)
            plan = few_plan(chance, shape, least=1, most=4)
            tables = few_tables(shape, 2 if len(few_tables(shape, 1)) > 7 and turn % 3 else 3)
            for i, step in enumerate(plan.steps()):
                lists = [rows for rows in tables if can_stand(shape, plan, i, rows)]
                changed = [rows for rows in lists if run_step(step, rows) != rows]
                word = self.idle(shape, plan, i)
                counts[word, step[0]] = counts.get((word, step[0]), 0) + 1
                if word == "always":
                    self.assertEqual(changed, [], plan.steps())
                if i + 1 < len(plan):
                    changed = [rows for rows in lists if both(plan, i, rows, False) != both(plan, i, rows, True)]
                    word = self.exchange(shape, plan, i)
                    words = frozenset((step[0], plan.steps()[i + 1][0]))
                    counts[word, words] = counts.get((word, words), 0) + 1
                    if word == "always":
                        self.assertEqual(changed, [], plan.steps())
        for word, step in itertools.product(("always", "rows"), ("keep", "sort", "distinct", "first", "flip")):
            self.assertGreater(counts[word, step], 0, (word, step))

    def test_each_two_steps(self):
        chance = random.Random(58)
        words = ("keep", "sort", "distinct", "first", "flip")
        counts = {}
        for one, other in itertools.product(words, words):
            for turn in range(6):
                shape = few_shape(chance, columns=2)
                steps = [few_step(chance, shape, (one,)), few_step(chance, shape, (other,))]
                plan = Plan([few_step(chance, shape)] * (turn % 2) + steps)
                i = turn % 2
                lists = [rows for rows in few_tables(shape, 2) if can_stand(shape, plan, i, rows)]
                changed = [rows for rows in lists if both(plan, i, rows, False) != both(plan, i, rows, True)]
                word = self.exchange(shape, plan, i)
                counts[word] = counts.get(word, 0) + 1
                self.assertTrue(word == "rows" or changed == [], plan.steps())
        self.assertGreater(min(counts.values()), 30)

    def test_the_cases_of_chance(self):
        chance = random.Random(56)
        for _ in range(60):
            shape = few_shape(chance, columns=4, checks=3, keys=3)
            plan = few_plan(chance, shape, least=2)
            for i in range(len(plan)):
                if few_atoms(shape, cases_of_idle(shape, plan, i)):
                    self.idle(shape, plan, i)
                    self.assertEqual(idle(shape, plan, i), idle(shape, Plan(plan.steps()), i))
                if i + 1 < len(plan) and few_atoms(shape, cases_of_exchange(shape, plan, i)):
                    self.exchange(shape, plan, i)


class ShowsTest(Decisions):
    def spoiled(self, shows, plan, i, answer, shape=PLAIN):
        """Each answer that is a little unlike the right one is refused."""
        word, found = answer
        self.assertIs(shows(shape, plan, i, answer), True)
        other = "rows" if word == "always" else "always"
        wrong = [
            [word, found], (word, tuple(found)), (word, found, found), (word,), (other, found), (word.upper(), found), (word.encode(), found),
            (word, found + [None]), (word, found + [("missed",)]), found, word, (None, found), (word, [found]), (word, {}), (word, "x"),
        ]
        if word == "rows":
            wrong += [(word, found[:1]), (word, []), (word, [None] + found), (word, [list(found[0].items())])]
        elif found:
            wrong += [(word, found[1:]), (word, [list(found[0])] + found[1:]), (word, [()] + found[1:]), (word, [("ring", ())] + found[1:])]
        for thing in wrong + odd_things():
            self.assertIs(shows(shape, plan, i, thing), False, thing)
        for thing in odd_things():
            if thing != found:
                self.assertIs(shows(shape, plan, i, (word, thing)), False)
            self.assertIs(shows(shape, plan, i, (word, [thing])), False)
            self.assertIs(shows(shape, plan, i, (thing, found)), False)

    def test_idle(self):
        for steps in ([("keep", T), ("keep", T)], [("first",), ("flip",)], [("sort", O), ("sort", O)]):
            plan = Plan(steps)
            self.spoiled(shows_idle, plan, 1, idle(PLAIN, plan, 1))
        for step in (("sort", O), ("distinct", ("a",)), ("first",), ("flip",)):
            plan = Plan([step])
            self.spoiled(shows_idle, plan, 0, idle(PLAIN, plan, 0))

    def test_exchange(self):
        for one, other in ((("sort", O), ("sort", O)), (("keep", T), ("distinct", ["a"])), (("distinct", ["a"]), ("distinct", ["a", "b"]))):
            plan = Plan([one, other])
            self.spoiled(shows_exchange, plan, 0, may_exchange(PLAIN, plan, 0))
        for one, other in ((("sort", O), ("sort", P)), (("distinct", ["a"]), ("flip",)), (("keep", T), ("first",)), (("first",), ("flip",))):
            plan = Plan([one, other])
            self.spoiled(shows_exchange, plan, 0, may_exchange(PLAIN, plan, 0))

    def test_no_cases(self):
        plan = Plan([("keep", T), ("flip",)])
        self.assertEqual(may_exchange(PLAIN, plan, 0), ("always", []))
        self.assertIs(shows_exchange(PLAIN, plan, 0, ("always", [])), True)
        for thing in (("always", ()), ["always", []], ("always", [("missed",)]), ("rows", []), ("rows", [{"a": 1, "b": "", "c": 1}]), ("always",)):
            self.assertIs(shows_exchange(PLAIN, plan, 0, thing), False)

    def rows(self, *values):
        return [{"a": a, "b": "x", "c": None} for a in values]

    def test_longer_lists(self):
        plan = Plan([("keep", compare("a", "<", 9)), ("sort", (("a", "up"),))])
        for rows, expected in [
            (self.rows(2, 1), True), (self.rows(1, 2, 3, 0), True), (self.rows(*range(60)), False), (self.rows(1, 2, 3), False),
            (self.rows(0, 0, 8, 8, -5, 7), True), (self.rows(9, 1), False), (self.rows(None, 1, 0), False), (self.rows(1), False), ([], False),
        ]:
            self.assertIs(shows_idle(PLAIN, plan, 1, ("rows", rows)), expected)
            self.assertIs(shows_idle(PLAIN, plan, 1, ("rows", tuple(rows))), False)
        rows = self.rows(*[0] * 59, -1)
        self.assertIs(shows_idle(PLAIN, plan, 1, ("rows", rows)), True)
        self.assertIs(shows_idle(PLAIN, plan, 1, ("rows", rows + rows[:1])), False)

    def test_longer_lists_for_an_exchange(self):
        plan = Plan([("sort", (("a", "down"),)), ("keep", ~empty("a")), ("flip",), ("first",)])
        for rows, expected in [
            (self.rows(2, 1), True), (self.rows(5, 5, 5, 3, 1), True), (self.rows(1, 2), False), (self.rows(2, 2), False), (self.rows(2), False),
            (self.rows(2, None), False), ([], False),
        ]:
            self.assertIs(shows_exchange(PLAIN, plan, 2, ("rows", rows)), expected)
            self.assertIs(shows_exchange(PLAIN, plan, 2, ("rows", tuple(rows))), False)

    def test_rows_that_cannot_stand_there(self):
        plan = Plan([("distinct", ["a"]), ("first",), ("flip",)])
        self.assertIs(shows_idle(PLAIN, plan, 0, ("rows", self.rows(1, 1))), True)
        self.assertIs(shows_idle(PLAIN, plan, 1, ("rows", self.rows(1, 1))), False)
        self.assertIs(shows_idle(PLAIN, plan, 1, ("rows", self.rows(1, 2))), True)
        self.assertIs(shows_idle(PLAIN, plan, 2, ("rows", self.rows(1, 2))), False)

    def test_nothing_that_is_handed_in_changes(self):
        plan = Plan([("distinct", ["a"]), ("distinct", ["b"])])
        rows = self.rows(1, 2, 1)
        shows_idle(PLAIN, plan, 0, ("rows", rows))
        shows_exchange(PLAIN, plan, 0, ("rows", rows))
        can_stand(PLAIN, plan, 1, rows)
        self.assertEqual(rows, self.rows(1, 2, 1))
        for call in (idle, may_exchange):
            told = call(PLAIN, plan, 0)
            kept = [dict(row) for row in told[1]]
            told[1][0]["a"] = 77
            told[1].clear()
            self.assertEqual(call(PLAIN, plan, 0)[1], kept)


class StandingWantsTest(unittest.TestCase):
    def test_wide_orders(self):
        shape = Shape([(name, "number", False) for name in "abcd"])
        plan = Plan([("sort", [(name, "up") for name in "bcd"]), ("flip",), ("sort", [("a", "up")]), ("keep", among("a", [1, 2])), ("flip",)])
        order = standing_order(plan, 4)
        self.assertEqual(len(order), 4)
        n, wants = cases_of_idle(shape, plan, 4)[0]
        self.assertEqual(wants[2], (ahead(turned(order), 1, 2), NOT))
        self.assertEqual(len(wants), 4)

    def test_nothing_else_is_a_sequence(self):
        self.assertTrue(all(not isinstance(thing, (list, tuple)) for thing in no_sequences(odd_things())))


if __name__ == "__main__":
    unittest.main()
