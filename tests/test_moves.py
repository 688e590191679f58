"""Points [60] to [62]: moves, the cheapest plan, and offers."""

import itertools
import random
import unittest

from tests.helper import Refusals, joined, odd_things
from tests.small import WORDS, deepened, few_order, few_plan, few_shape, few_tables, few_test
from tests.test_claims import no_sequences
from tworows.errors import BadClaim, BadOrder, BadPlan, BadTest, LimitExceeded, TooMany
from tworows.logic import always, among, compare, empty, never
from tworows.moves import cases_of_offer, cheapest, moves, offer_stands, shows_moves
from tworows.orders import sort_rows, turned
from tworows.pairs import ahead, clash, copies, copy_test
from tworows.plans import Plan, idle, may_exchange, run
from tworows.shapes import Shape, may_stand
from tworows.trees import shows_none

T, U = compare("a", "<", 1), empty("b")
O, P = (("a", "up"), ("b", "down")), (("c", "down"),)
SHAPE = Shape([("a", "number", False), ("b", "text", False), ("c", "number", False)])
YES, NOT = (True,), (False, None)
PRICES = {"keep": 5, "sort": 20, "distinct": 7, "first": 1, "flip": 3}
WIDE, DEEP, STRANGE = ("keep", joined([T] * 9)), ("keep", deepened(T, 9)), ("keep", joined([empty("z")] * 9))


def dropped(plan, i):
    return Plan(plan.steps()[:i] + plan.steps()[i + 1 :])


def exchanged(plan, i):
    steps = plan.steps()
    steps[i], steps[i + 1] = steps[i + 1], steps[i]
    return Plan(steps)


def expected_moves(shape, plan):
    """The moves of a plan by the words of point [60]."""
    found = [("drop", i, dropped(plan, i)) for i in range(len(plan)) if idle(shape, plan, i)[0] == "always"]
    return found + [("exchange", i, exchanged(plan, i)) for i in range(len(plan) - 1) if may_exchange(shape, plan, i)[0] == "always"]


class PlanErrors(unittest.TestCase, Refusals):
    def bad_plans(self, call, *more, **named):
        """The errors of point [55] without an index, ahead of all others."""
        large = Shape([(name, "number", False) for name in "abcde"])
        self.refused(BadClaim, {"why": "shape"}, call, large, None, *more, **named)
        for thing in odd_things() + [[("flip",)], [], "flip", SHAPE]:
            self.refused(BadPlan, {"why": "plan", "at": -1}, call, SHAPE, thing, *more, **named)
        for why, at, steps in [
            ("shape", 0, [("sort", [("z", "up")]), WIDE]), ("large", 0, [WIDE, ("sort", [("z", "up")])]), ("large", 1, [("flip",), DEEP, STRANGE]),
            ("shape", 1, [("flip",), STRANGE, DEEP]), ("shape", 2, [("flip",)] * 2 + [("distinct", ["z"])]),
        ]:
            self.refused(BadPlan, {"why": why, "at": at}, call, SHAPE, Plan(steps), *more, **named)


class MovesTest(PlanErrors):
    def test_drops_ahead_of_exchanges(self):
        plan = Plan([("keep", T), ("keep", T), ("flip",), ("flip",)])
        told = moves(SHAPE, plan)
        self.assertIs(type(told), list)
        self.assertEqual([(word, i) for word, i, _ in told], [("drop", 1), ("exchange", 0), ("exchange", 1), ("exchange", 2)])
        for word, i, end in told:
            self.assertIs(type(end), Plan)
            self.assertEqual(end, dropped(plan, i) if word == "drop" else exchanged(plan, i))
        self.assertTrue(all(type(move) is tuple for move in told))

    def test_an_exchange_of_two_equal_steps(self):
        for step in (("keep", T), ("sort", O), ("distinct", ("a",)), ("first",), ("flip",)):
            plan = Plan([step, step])
            self.assertIn(("exchange", 0, plan), moves(SHAPE, plan))

    def test_few_steps(self):
        self.assertEqual(moves(SHAPE, Plan([])), [])
        self.assertEqual(moves(SHAPE, Plan([("flip",)])), [])
        self.assertEqual(moves(SHAPE, Plan([("keep", always())])), [("drop", 0, Plan([]))])

    def test_by_the_words_of_the_document(self):
        chance = random.Random(60)
        for _ in range(60):
            shape = few_shape(chance)
            plan = few_plan(chance, shape)
            self.assertEqual(moves(shape, plan), expected_moves(shape, plan))

    def test_a_plan_and_what_comes_of_it_give_the_same_list(self):
        chance = random.Random(601)
        many = 0
        for _ in range(60):
            shape = few_shape(chance)
            plan = few_plan(chance, shape)
            tables = few_tables(shape, 3 if len(few_tables(shape, 1)) < 9 else 2)
            ends = [end for _, _, end in moves(shape, plan)]
            ends += [further for end in ends[:2] for _, _, further in moves(shape, end)]
            for end in ends:
                many += 1
                for table in tables[::2]:
                    self.assertEqual(run(shape, plan, table), run(shape, end, table))
        self.assertGreater(many, 80)

    def test_errors(self):
        self.bad_plans(moves)


class ShowsMovesTest(PlanErrors):
    PLAN = Plan([("keep", T), ("sort", O), ("keep", T), ("first",)])

    def test_right_moves(self):
        for steps in ([], [("exchange", 0)], [("exchange", 0), ("drop", 2)], [("drop", 2)], [("exchange", 1), ("exchange", 0), ("drop", 1)]):
            end = self.PLAN
            for word, i in steps:
                end = dropped(end, i) if word == "drop" else exchanged(end, i)
            self.assertIs(shows_moves(SHAPE, self.PLAN, steps, end), True, steps)
            if steps:
                self.assertIs(shows_moves(SHAPE, self.PLAN, steps, self.PLAN), False)
            for thing in odd_things() + [end.steps(), "", SHAPE]:
                self.assertIs(shows_moves(SHAPE, self.PLAN, steps, thing), False)

    def test_wrong_moves(self):
        for steps in ([("drop", 0)], [("drop", 3)], [("drop", 1)], [("drop", 2), ("drop", 2)], [("exchange", 0), ("drop", 3)], [("drop", 2), ("drop", 0)]):
            end = self.PLAN
            for word, i in steps:
                end = dropped(end, i) if word == "drop" else exchanged(end, i)
            self.assertIs(shows_moves(SHAPE, self.PLAN, steps, end), False, steps)

    def test_a_move_of_the_plan_that_is_left(self):
        plan = Plan([("keep", T), ("keep", T), ("keep", T)])
        self.assertIs(shows_moves(SHAPE, plan, [("drop", 2), ("drop", 1)], Plan([("keep", T)])), True)
        self.assertIs(shows_moves(SHAPE, plan, [("drop", 1), ("drop", 2)], Plan([("keep", T)])), False)
        self.assertIs(shows_moves(SHAPE, plan, [("drop", 2), ("drop", 1), ("drop", 0)], Plan([])), False)
        self.assertIs(shows_moves(SHAPE, plan, [("drop", 2), ("exchange", 0), ("drop", 1)], Plan([("keep", T)])), True)
        self.assertIs(shows_moves(SHAPE, plan, [("drop", 2), ("exchange", 1), ("drop", 1)], Plan([("keep", T)])), False)

    def test_other_things(self):
        end = dropped(self.PLAN, 2)
        for move in odd_things() + [
            ["drop", 2], ("drop",), ("drop", 2, end), ("drop", "2"), ("drop", -2), ("drop", 4), ("drop", True), ("exchange", 3), ("Drop", 2),
            (b"drop", 2), ("exchange", -1), ("drop", None), (2, "drop"), "drop", ("drop", [2]), ("", 2),
        ]:
            self.assertIs(shows_moves(SHAPE, self.PLAN, [move], end), False)
            self.assertIs(shows_moves(SHAPE, self.PLAN, [("drop", 2), move], end), False)
        for thing in odd_things():
            self.assertIs(shows_moves(SHAPE, self.PLAN, [("drop", thing)], end), False)
            self.assertIs(shows_moves(SHAPE, self.PLAN, [(thing, 2)], end), False)

    def test_what_is_no_list_is_refused_without_any_decision(self):
        wide = joined([compare("a", "<", 2 * at) for at in range(8)])
        other = joined([compare("c", "<", 2 * at) for at in range(8)])
        keyed = Shape(SHAPE.columns(), checks=[wide, other], keys=[(["a", "c"], wide)])
        plan = Plan([("keep", among("a", [2 * at + 100 for at in range(8)])), ("distinct", ["a", "b", "c"]), ("flip",)])
        for thing in no_sequences(odd_things()) + [(), (("drop", 0),), "", {}, plan, {("drop", 0): 1}]:
            self.assertIs(shows_moves(keyed, plan, thing, plan), False)
        for move in (("drop", 1), ("exchange", 1)):
            self.refused(TooMany, {"limit": 60}, shows_moves, keyed, plan, [move], plan)
        self.assertIs(shows_moves(keyed, plan, [], plan), True)

    def test_errors(self):
        for thing in odd_things()[:4] + [[], [("drop", 0)]]:
            self.bad_plans(shows_moves, thing, thing)


def all_plans(shape, plan):
    """All plans that moves lead to, by a plain search."""
    found = [plan]
    for one in found:
        found += [end for _, _, end in expected_moves(shape, one) if end not in found]
        unlike = []
        for end in found:
            if end not in unlike:
                unlike.append(end)
        found[:] = unlike
    return found


def price_of(plan, prices):
    return sum(prices[step[0]] for step in plan.steps())


class CheapestTest(PlanErrors):
    def told(self, shape, plan, prices=None, **named):
        prices = PRICES if prices is None else prices
        answer = cheapest(shape, plan, prices, **named)
        self.assertEqual((type(answer), len(answer)), (tuple, 3))
        price, best, steps = answer
        self.assertIs(type(price), int)
        self.assertIs(type(best), Plan)
        self.assertIs(type(steps), list)
        self.assertEqual(price, price_of(best, prices))
        self.assertIs(shows_moves(shape, plan, steps, best), True)
        return price

    def test_small_plans(self):
        self.assertEqual(self.told(SHAPE, Plan([])), 0)
        self.assertEqual(cheapest(SHAPE, Plan([]), PRICES), (0, Plan([]), []))
        self.assertEqual(self.told(SHAPE, Plan([("sort", O)])), 20)
        self.assertEqual(self.told(SHAPE, Plan([("keep", T), ("sort", O), ("keep", T), ("first",)])), 26)
        self.assertEqual(self.told(SHAPE, Plan([("sort", O), ("flip",), ("keep", T), ("flip",), ("sort", O)])), 25 + 6)
        self.assertEqual(self.told(SHAPE, Plan([("first",), ("sort", O), ("distinct", ["a"]), ("flip",), ("first",)])), 1)

    def test_exchanges_may_be_needed(self):
        plan = Plan([("keep", T), ("sort", O), ("keep", compare("a", "<", 0)), ("flip",)])
        price, best, steps = cheapest(SHAPE, plan, PRICES)
        self.assertEqual(price, 28)
        self.assertIn("exchange", [word for word, _ in steps])

    def test_prices(self):
        plan = Plan([("keep", T), ("keep", T), ("flip",), ("first",)])
        for prices, price in [
            ({word: 0 for word in WORDS}, 0), ({word: 1 for word in WORDS}, 3), ({word: 10 ** 6 for word in WORDS}, 3 * 10 ** 6),
            ({**PRICES, "keep": 0}, 4), (dict(reversed(list(PRICES.items()))), 9),
        ]:
            self.assertEqual(self.told(SHAPE, plan, prices), price)
        kept = dict(PRICES)
        cheapest(SHAPE, plan, kept)
        self.assertEqual(kept, PRICES)
        self.assertEqual(cheapest(SHAPE, plan, PRICES), cheapest(SHAPE, plan, dict(reversed(list(PRICES.items())))))

    def bad(self, why, prices, **named):
        self.refused(BadPlan, {"why": why, "at": -1}, cheapest, SHAPE, Plan([("flip",)]), prices, **named)

    def test_wrong_prices(self):
        for thing in odd_things() + [{}, list(PRICES.items()), 5, "", {**PRICES, "x": 1}, {**PRICES, None: 1}, {**PRICES, 1: 1}]:
            self.bad("prices", thing)
            self.bad("prices", thing, limit=0)
        for word in WORDS:
            self.bad("prices", {other: 1 for other in WORDS if other != word})
            self.bad("prices", {other if other != word else other.upper(): 1 for other in WORDS})
            self.bad("prices", {other if other != word else other.encode(): 1 for other in WORDS})
            for price in odd_things() + [-1, 10 ** 6 + 1, "1", 10 ** 30]:
                self.bad("prices", {**PRICES, word: price})
                self.bad("prices", {**PRICES, word: price}, limit="x")

    def test_wrong_limits(self):
        for limit in odd_things() + [0, -1, "1", -(10 ** 30)]:
            self.bad("limit", PRICES, limit=limit)
        self.assertEqual(self.told(SHAPE, Plan([("flip",)]), limit=1), 3)
        self.assertEqual(self.told(SHAPE, Plan([("flip",)]), limit=10 ** 30), 3)
        self.bad_plans(cheapest, None, limit=None)

    def test_the_limit_is_by_keyword(self):
        with self.assertRaises(TypeError):
            cheapest(SHAPE, Plan([]), PRICES, 5)

    def test_a_limit_of_just_the_number_of_plans_and_one_less(self):
        several = [
            [("keep", T), ("sort", O), ("keep", T), ("flip",)], [("flip",), ("flip",)], [("first",), ("sort", O), ("flip",)], [("sort", O)],
            [("keep", T), ("keep", U), ("keep", ~T), ("keep", ~U), ("keep", compare("c", ">", 1))],
        ]
        counts = []
        for steps in several:
            plan = Plan(steps)
            many = len(all_plans(SHAPE, plan))
            counts.append(many)
            price = self.told(SHAPE, plan, limit=many)
            self.assertEqual(self.told(SHAPE, plan), price)
            if many > 1:
                self.refused(LimitExceeded, {"limit": many - 1}, cheapest, SHAPE, plan, PRICES, limit=many - 1)
                self.refused(LimitExceeded, {"limit": 1}, cheapest, SHAPE, plan, PRICES, limit=1)
        self.assertEqual(counts[1], 1)
        self.assertGreater(counts[4], 100)

    def test_the_most_plans(self):
        shape = Shape([("a", "number", False)], checks=[never()])
        plan = Plan([("keep", T), ("sort", [("a", "up")]), ("distinct", ["a"]), ("first",), ("flip",)])
        self.assertEqual(self.told(shape, plan), 0)
        self.assertEqual(self.told(shape, plan, limit=326), 0)
        self.refused(LimitExceeded, {"limit": 325}, cheapest, shape, plan, PRICES, limit=325)

    def test_against_a_plain_search(self):
        chance = random.Random(61)
        saved = 0
        for _ in range(60):
            shape = few_shape(chance)
            plan = few_plan(chance, shape, most=4)
            prices = {word: chance.choice((0, 1, 1, 5, 9)) for word in WORDS}
            plans = all_plans(shape, plan)
            price = self.told(shape, plan, prices)
            self.assertEqual(price, min(price_of(end, prices) for end in plans))
            saved += price < price_of(plan, prices)
            self.assertEqual(cheapest(shape, plan, prices, limit=len(plans)), cheapest(shape, plan, prices))
            if len(plans) > 1:
                self.refused(LimitExceeded, {"limit": len(plans) - 1}, cheapest, shape, plan, prices, limit=len(plans) - 1)
        self.assertGreater(saved, 5)

    def test_new_lists(self):
        plan = Plan([("keep", T), ("keep", T)])
        cheapest(SHAPE, plan, PRICES)[2].clear()
        self.assertEqual(len(cheapest(SHAPE, plan, PRICES)[2]), 1)


class OfferTest(PlanErrors):
    PLAN = Plan([("keep", T), ("sort", O), ("flip",)])

    def test_the_three_cases(self):
        for many in range(3):
            keys = [(("a",), None), (("b", "c"), U)][:many]
            shape = Shape(SHAPE.columns(), checks=[~U], keys=keys)
            both = [(copy_test(T, 1), YES), (copy_test(T, 2), YES)] + [(clash(key, 1, 2), NOT) for key in keys]
            expected = [
                (1, [(copy_test(T, 1), YES), (copy_test(U, 1), NOT)]),
                (2, both + [(ahead(turned(O), 1, 2), YES), (ahead(turned(P), 1, 2), NOT)]),
                (2, both + [(ahead(turned(P), 1, 2), YES), (ahead(turned(O), 1, 2), NOT)]),
            ]
            for order in (P, list(P), [list(part) for part in P]):
                told = cases_of_offer(shape, self.PLAN, order, U)
                self.assertEqual(told, expected)
                self.assertIs(type(told), list)

    def test_offers_that_stand(self):
        for plan, order, test in [
            (self.PLAN, O, T), (self.PLAN, O, always()), (self.PLAN, O, compare("a", "<", 2)),
            (Plan([("keep", compare("a", "==", 1)), ("sort", O)]), (("b", "down"),), compare("a", ">", 0)),
            (Plan([("keep", never()), ("sort", O)]), P, never()),
        ]:
            word, trees = offer_stands(SHAPE, plan, order, test)
            self.assertEqual((word, len(trees)), ("always", 3))
            for (n, wants), tree in zip(cases_of_offer(SHAPE, plan, order, test), trees):
                self.assertIs(shows_none(copies(SHAPE, n), wants, tree), True)

    def test_offers_that_do_not(self):
        for order, test, many in [(O, compare("a", "<", 0), 1), (P, T, 2), (turned(O), T, 2), (O[:1], T, 2), (O + P, T, 2), (P, never(), 1)]:
            word, rows = offer_stands(SHAPE, self.PLAN, order, test)
            self.assertEqual((word, len(rows)), ("rows", many))
            self.assertNotEqual(self.listed(rows, T, test, order), run(SHAPE, Plan(self.PLAN.steps()[:2]), rows))

    def listed(self, rows, test, offered, order):
        """The rows with a test out of the offered listing."""
        return [row for row in sort_rows(order, [row for row in rows if offered.truth(row) is True]) if test.truth(row) is True]

    def test_by_chance(self):
        chance = random.Random(62)
        words = []
        for _ in range(250):
            shape = few_shape(chance)
            test, own, order = few_test(chance, shape), few_order(chance, shape), few_order(chance, shape)
            offered = chance.choice((always(), test, test | few_test(chance, shape), few_test(chance, shape)))
            if chance.random() < 0.5:
                order = own + tuple(part for part in order if part[0] not in dict(own))
            plan = Plan([("keep", test), ("sort", own)])
            word, found = offer_stands(shape, plan, order, offered)
            words.append(word)
            if word == "rows":
                self.assertIs(may_stand(shape, found), True)
                self.assertNotEqual(self.listed(found, test, offered, order), run(shape, plan, found))
            else:
                for table in few_tables(shape, 2):
                    self.assertEqual(self.listed(table, test, offered, order), run(shape, plan, table))
        self.assertGreater(min(words.count("always"), words.count("rows")), 40)

    def bad(self, kind, told, *given):
        self.refused(kind, told, cases_of_offer, SHAPE, *given)
        self.refused(kind, told, offer_stands, SHAPE, *given)

    def test_errors(self):
        for call in (cases_of_offer, offer_stands):
            self.bad_plans(call, None, None)
        for steps in ([], [("sort", O), ("keep", T)], [("flip",), ("sort", O)], [("first",)]):
            self.bad(BadPlan, {"why": "offer", "at": 0}, Plan(steps), None, None)
        for steps in ([("keep", T)], [("keep", T), ("keep", T)], [("keep", T), ("flip",), ("sort", O)], [("keep", T), ("distinct", ["a"])]):
            self.bad(BadPlan, {"why": "offer", "at": 1}, Plan(steps), None, None)
        for thing in no_sequences(odd_things()) + [[], (), "a up"]:
            self.bad(BadOrder, {"at": -1}, self.PLAN, thing, None)
        for thing in odd_things():
            self.bad(BadOrder, {"at": 0}, self.PLAN, [thing], thing)
            self.bad(BadTest, {"why": "part"}, self.PLAN, O, thing)
        self.bad(BadOrder, {"at": 1}, self.PLAN, [("a", "up"), ("z", "up")], None)
        self.bad(BadOrder, {"at": 2}, self.PLAN, [("z", "up"), ("a", "up"), ("a", "up")], None)
        for test in (empty("z"), compare("a", "<", "x"), joined([empty("z")] * 9)):
            self.bad(BadTest, {"why": "column"}, self.PLAN, O, test)
        for test in (joined([T] * 9), deepened(T, 9)):
            self.bad(BadClaim, {"why": "large"}, self.PLAN, O, test)
        for test in (joined([T] * 8), deepened(T, 8)):
            self.assertEqual(len(cases_of_offer(SHAPE, self.PLAN, O, test)), 3)

    def test_longer_plans_and_later_steps(self):
        for more in itertools.product([("flip",), ("keep", U)], repeat=3):
            self.assertEqual(cases_of_offer(SHAPE, Plan(self.PLAN.steps()[:2] + list(more)), P, U), cases_of_offer(SHAPE, self.PLAN, P, U))


if __name__ == "__main__":
    unittest.main()
