"""The whole program: answers of different parts agree, texts decide alike, and nothing that is handed in changes."""

import copy
import random
import sys
import unittest

from tests.helper import Refusals
from tests.small import (
    WORDS, few_claim, few_key, few_names, few_order, few_plan, few_rows, few_rule, few_shape, few_tables, few_test,
)
from tests.test_claims import CLAIM_WORDS, table_breaks
from tworows.desk import Desk
from tworows.errors import RowsError
from tworows.logic import always, conjuncts, empty
from tworows.moves import cases_of_offer, cheapest, moves, offer_stands, shows_moves
from tworows.orders import alike_in, comes_ahead, need_order, order_in, sort_rows, turned
from tworows.pairs import (
    ahead, breaks, cases_of, claim_holds, clash, copies, copy_test, need_claim, rows_of, same, shows_claim,
)
from tworows.plans import (
    Plan, can_stand, cases_of_exchange, cases_of_idle, idle, may_exchange, run, run_step, shows_exchange, shows_idle,
    standing_order,
)
from tworows.rules import bare, mends, needed_rules, own_rules, with_rules
from tworows.scopes import Scope, alike, fixed, left_over, never_comes, same_truth, within
from tworows.search import find_row
from tworows.shapes import Shape, check_row, check_table, may_stand
from tworows.store import Store
from tworows.texts import (
    claim_text, order_text, plan_text, read_claim, read_order, read_plan, read_rule, read_shape, rule_text, shape_text,
)
from tworows.texts import read_test as test_of
from tworows.texts import test_text as text_of
from tworows.trees import shows_none
from tworows.wants import need_wants

PRICES = {word: at for at, word in enumerate(WORDS)}


def keyless(shape):
    return Shape(shape.columns(), checks=shape.checks())


class AgreeTest(unittest.TestCase):
    def test_within_a_claim_and_a_keep_behind_a_keep(self):
        chance = random.Random(1)
        words = []
        for _ in range(200):
            shape = few_shape(chance, columns=chance.choice((1, 2, 3)), checks=2, keys=2)
            one, other = few_test(chance, shape, 2), few_test(chance, shape, 2)
            if chance.random() < 0.4:
                other = other | one
            word, found = within(shape, one, other)
            claim, plan = ("within", one, other), Plan([("keep", one), ("keep", other)])
            self.assertEqual(claim_holds(shape, claim)[0] == "always", word == "always")
            self.assertEqual(idle(shape, plan, 1)[0] == "always", word == "always")
            self.assertIs(Scope(shape, one) <= Scope(shape, other), word == "always")
            if word == "row":
                self.assertIs(breaks(shape, claim, [found]), True)
                self.assertIs(shows_idle(shape, plan, 1, ("rows", [found])), True)
            words.append(word)
        self.assertGreater(min(words.count("always"), words.count("row")), 50)

    def test_never_comes_alike_fixed_and_the_claims(self):
        chance = random.Random(2)
        seen = set()
        for _ in range(150):
            shape = few_shape(chance, columns=chance.choice((1, 2)), checks=2, keys=2)
            one, other = few_test(chance, shape, 2), few_test(chance, shape, 2)
            nothing = never_comes(shape, one)[0] == "always"
            self.assertEqual(claim_holds(shape, ("never", one))[0] == "always", nothing)
            self.assertIs(Scope(shape, one).is_empty(), nothing)
            self.assertIs(with_rules(shape, [("check", ~one)]) == shape, False)
            both = all(claim_holds(shape, ("within", *pair))[0] == "always" for pair in ((one, other), (other, one)))
            self.assertEqual(alike(shape, one, other)[0] == "always", both)
            if same_truth(shape, one, other)[0] == "always":
                self.assertTrue(both)
            plain = keyless(shape)
            for column in shape.names():
                word = fixed(shape, one, column)[0]
                seen.add(word)
                self.assertEqual(claim_holds(plain, ("constant", one, column))[0] == "always", word != "rows")
                if word != "rows":
                    self.assertEqual(claim_holds(shape, ("constant", one, column))[0], "always")
            if nothing:
                for claim_word in CLAIM_WORDS:
                    claim = few_claim(chance, shape, claim_word)
                    self.assertEqual(claim_holds(shape, (claim_word, one, *claim[2:]))[0], "always")
        self.assertEqual(seen, {"never", "value", "rows"})

    def test_claims_and_steps(self):
        chance = random.Random(3)
        for _ in range(120):
            shape = few_shape(chance, columns=chance.choice((1, 2, 3)), checks=2, keys=2)
            test, names = few_test(chance, shape), few_names(chance, shape)
            keep = ("keep", test)
            single = claim_holds(shape, ("at_most_one", test))[0]
            self.assertEqual(idle(shape, Plan([keep, ("first",)]), 1)[0], single)
            self.assertEqual(idle(shape, Plan([keep, ("distinct", ())]), 1)[0], single)
            apart = claim_holds(shape, ("apart", test, names))[0]
            self.assertEqual(idle(shape, Plan([keep, ("distinct", names)]), 1)[0], apart)
            order, other = few_order(chance, shape), few_order(chance, shape)
            follows = claim_holds(shape, ("follows", test, order, other))[0]
            self.assertEqual(idle(shape, Plan([keep, ("sort", order), ("sort", other)]), 2)[0], follows)
            everything = tuple(shape.names())[:3]
            if len(shape.names()) < 4:
                told = claim_holds(shape, ("tells", test, (), everything))[0]
                self.assertEqual(idle(shape, Plan([keep, ("flip",)]), 1)[0], told)
            offer = offer_stands(shape, Plan([keep, ("sort", order)]), order, always())
            self.assertEqual(offer[0], "always")

    def test_left_over_and_within(self):
        chance = random.Random(4)
        for _ in range(60):
            shape = few_shape(chance)
            test, given = few_test(chance, shape) & few_test(chance, shape), few_test(chance, shape)
            if len(conjuncts(test)) > 6:
                continue
            enough = [] in left_over(shape, test, given)
            self.assertEqual(claim_holds(shape, ("within", given, test))[0] == "always", enough)


class StoresTest(unittest.TestCase, Refusals):
    """What is decided is true of every store, and what is told can be let into one."""

    def test_told_rows_show_in_a_store_what_they_were_told_for(self):
        chance = random.Random(5)
        told = 0
        for _ in range(80):
            shape = few_shape(chance, columns=2, checks=2, keys=2)
            for word in CLAIM_WORDS:
                claim = few_claim(chance, shape, word)
                answer, rows = claim_holds(shape, claim)
                if answer == "rows":
                    told += 1
                    store = Store(shape)
                    store |= rows
                    self.assertIs(table_breaks(claim, store.table()), True)
                    self.assertIs(breaks(shape, claim, store.table()), True)
            plan = few_plan(chance, shape, least=1)
            i = chance.randrange(len(plan))
            answer, rows = idle(shape, plan, i)
            if answer == "rows":
                store = Store(shape)
                store |= rows[::-1] if plan.steps()[:i].count(("flip",)) % 2 else rows
                begun = list(store.ask(Plan(plan.steps()[:i])))
                self.assertEqual(begun, rows)
                self.assertNotEqual(list(store.ask(Plan(plan.steps()[: i + 1]))), begun)
            answer, rows = offer_stands(shape, Plan([("keep", few_test(chance, shape)), ("sort", few_order(chance, shape))]), few_order(chance, shape), always())
            if answer == "rows":
                store = Store(shape)
                store |= rows
                self.assertEqual(store.table(), rows)
        self.assertGreater(told, 200)

    def some_store(self, chance, shape):
        """A store of a few rows over few values."""
        store = Store(shape)
        rows = few_rows(shape)
        for _ in range(6 if rows else 0):
            try:
                store.put(chance.choice(rows))
            except RowsError:
                pass
        return store

    def test_what_holds_is_true_of_every_store(self):
        chance = random.Random(6)
        held = 0
        for _ in range(150):
            shape = few_shape(chance, columns=2, checks=2, keys=2)
            store = self.some_store(chance, shape)
            table = store.table()
            pairs = [[one, other] for at, one in enumerate(table) for place, other in enumerate(table) if at != place]
            claim = few_claim(chance, shape, chance.choice(CLAIM_WORDS))
            if claim_holds(shape, claim)[0] == "always":
                held += 1
                for rows in pairs + [[row] for row in table]:
                    self.assertIs(table_breaks(claim, rows), False)
            plan = few_plan(chance, shape)
            price, best, steps = cheapest(shape, plan, PRICES)
            self.assertEqual(list(store.ask(plan)), list(store.ask(best)))
            for _, _, end in moves(shape, plan):
                self.assertEqual(list(store.ask(plan)), list(store.ask(end)))
            for word, i in steps:
                self.assertIn(word, ("drop", "exchange"))
        self.assertGreater(held, 30)

    def test_rules_that_are_added_and_stores(self):
        chance = random.Random(7)
        for _ in range(80):
            shape = few_shape(chance, checks=1, keys=1)
            rules = [few_rule(chance, shape) for _ in range(2)]
            wider = with_rules(shape, rules)
            store, narrow = self.some_store(chance, shape), Store(wider)
            try:
                narrow |= store.table()
            except RowsError:
                self.assertIs(may_stand(wider, store.table()), False)
            else:
                self.assertIs(may_stand(wider, store.table()), True)
            desk = Desk(shape)
            for rule in rules:
                desk.add_rule(rule)
            self.assertEqual(desk.shape(), wider)


class TextsTest(unittest.TestCase):
    def test_what_is_read_back_decides_alike(self):
        chance = random.Random(8)
        for _ in range(50):
            shape = few_shape(chance, columns=3, checks=2, keys=2)
            again = read_shape(shape_text(shape))
            self.assertEqual(again, shape)
            claim = few_claim(chance, shape, chance.choice(CLAIM_WORDS))
            self.assertEqual(claim_holds(again, read_claim(claim_text(claim))), claim_holds(shape, claim))
            test = few_test(chance, shape, 2)
            self.assertEqual(never_comes(again, test_of(text_of(test))), never_comes(shape, test))
            plan = few_plan(chance, shape, least=1)
            other = read_plan(plan_text(plan))
            for i in range(len(plan)):
                self.assertEqual(idle(again, other, i), idle(shape, plan, i))
            self.assertEqual(cheapest(again, other, PRICES), cheapest(shape, plan, PRICES))
            rules = [few_rule(chance, shape) for _ in range(chance.randint(0, 1))]
            read = [read_rule(rule_text(rule)) for rule in rules]
            self.assertEqual(mends(again, read_claim(claim_text(claim)), read), mends(shape, claim, rules))
            order = few_order(chance, shape)
            self.assertEqual(read_order(order_text(order)), order)
            one, two = Desk(shape), Desk(again)
            self.assertEqual(one.watch(claim), two.do_line(f"watch {claim_text(claim)}") == ["holds"])
            for rule, text in zip(rules, read):
                self.assertEqual(one.add_rule(rule), two.add_rule(text))
            self.assertEqual(one.watched(), two.watched())


def calls(chance):
    """Calls of most functions, with arguments of lists and dicts."""
    shape = few_shape(chance, columns=2, checks=2, keys=2)
    rows = chance.choice(few_tables(shape, 2))
    test, other = few_test(chance, shape), few_test(chance, shape)
    order = [list(part) for part in few_order(chance, shape)]
    claim = list(few_claim(chance, shape, chance.choice(CLAIM_WORDS)))
    claim[2:] = [[list(one) if isinstance(one, tuple) else one for one in part] if isinstance(part, tuple) else part for part in claim[2:]]
    steps = [list(step) for step in few_plan(chance, shape, least=2).steps()]
    plan = Plan(steps)
    names, key, rule = list(few_names(chance, shape)), few_key(chance, shape), list(few_rule(chance, shape))
    wants = [[test, [True]], [other, [False, None]]]
    places = {f"{name}{i}": None for name in shape.names() for i in (1, 2)}
    full = [[name, kind, True] for name, kind, _ in shape.columns()]
    row = {name: (1 if kind == "number" else "x") for name, kind, _ in shape.columns()}
    return [
        (Shape, (full,)), (Plan, (steps,)), (check_row, (shape, row)), (check_table, (shape, rows)), (need_wants, (shape, wants)), (find_row, (shape, wants)),
        (need_order, (order,)), (order_in, (shape, order)), (turned, (order,)), (sort_rows, (order, rows)), (copies, (shape, 2)), (copy_test, (test, 1)),
        (rows_of, (shape, 2, places)), (same, (names, 1, 2)), (ahead, (order, 1, 2)), (clash, (key, 1, 2)), (need_claim, (claim,)), (cases_of, (shape, claim)),
        (claim_holds, (shape, claim)), (breaks, (shape, claim, rows)), (shows_claim, (shape, claim, ("rows", rows))), (run_step, (steps[0], rows)),
        (run, (shape, plan, rows)), (standing_order, (plan, 2)), (can_stand, (shape, plan, 2, rows)), (cases_of_idle, (shape, plan, 0)),
        (cases_of_exchange, (shape, plan, 0)), (idle, (shape, plan, 1)), (may_exchange, (shape, plan, 0)), (shows_idle, (shape, plan, 1, ("rows", rows))),
        (shows_exchange, (shape, plan, 0, ("rows", rows))), (moves, (shape, plan)), (shows_moves, (shape, plan, [("drop", 0)], plan)),
        (cheapest, (shape, plan, PRICES)), (with_rules, (shape, [rule])), (own_rules, (shape,)), (bare, (shape, own_rules(shape))), (mends, (shape, claim, [rule])),
        (needed_rules, (shape, claim)), (order_text, (order,)), (claim_text, (claim,)), (rule_text, (rule,)), (plan_text, (plan,)), (shape_text, (shape,)),
        (offer_stands, (shape, Plan([("keep", test), ("sort", order)]), order, other)),
        (cases_of_offer, (shape, Plan([("keep", test), ("sort", order)]), order, other)),
        (Store(shape).together, ([["put", row], ["drop", 1]],)), (Store(shape).change, (test, {names[0]: ["column", names[0]]})), (Desk(shape).add_rule, (rule,)),
        (Desk(shape).watch, (claim,)), (Desk(shape).asked, (claim,)), (alike_in, (names, row, row)), (comes_ahead, (order, row, row)),
    ]


def answered(call, given):
    """What a call tells, or its error."""
    try:
        return call(*given)
    except RowsError as error:
        return type(error), vars(error)


def spoil(thing):
    """Change each list and each dict in a thing."""
    if isinstance(thing, (list, tuple)):
        for part in thing:
            spoil(part)
    if isinstance(thing, dict):
        thing["spoiled"] = 1
    if isinstance(thing, list):
        thing.append("spoiled")


class GeneralTest(unittest.TestCase):
    def test_nothing_that_is_handed_in_is_modified_or_kept(self):
        chance = random.Random(9)
        for _ in range(25):
            for call, given in calls(chance):
                kept = copy.deepcopy(given)
                told = answered(call, given)
                self.assertEqual(given, kept, call)
                if "self" in dir(call) or hasattr(call, "__self__"):
                    continue
                again = answered(call, given)
                self.assertEqual(told, again, call)
                self.assertEqual(told, answered(call, kept), call)
                # What is told is new: changing it changes neither the arguments nor later answers.
                spoil(told)
                self.assertEqual(given, kept, call)
                self.assertEqual(again, answered(call, given), call)

    def test_objects_keep_no_list_that_was_passed_in(self):
        chance = random.Random(10)
        for _ in range(40):
            shape = few_shape(chance, columns=2, checks=2, keys=2)
            columns, checks, keys = [list(column) for column in shape.columns()], shape.checks(), [[list(names), test] for names, test in shape.unique_keys()]
            made = Shape(columns, checks=checks, keys=keys)
            spoil([columns, checks, keys])
            self.assertEqual(made, shape)
            steps = [[step[0], *[list(part) if isinstance(part, tuple) else part for part in step[1:]]] for step in few_plan(chance, shape).steps()]
            plan, text = Plan(steps), plan_text(Plan(steps))
            spoil(steps)
            self.assertEqual(plan_text(plan), text)
            for told in (shape.columns(), shape.names(), shape.checks(), shape.unique_keys(), plan.steps()):
                spoil(told)
            self.assertEqual((made, plan_text(plan)), (shape, text))

    def test_no_recursion_to_speak_of(self):
        # The program asks for less than a few hundred calls one in another.
        chance = random.Random(11)
        depth, frame = 0, sys._getframe()
        while frame is not None:
            depth, frame = depth + 1, frame.f_back
        limit = sys.getrecursionlimit()
        sys.setrecursionlimit(depth + 330)
        try:
            for _ in range(10):
                for call, given in calls(chance):
                    answered(call, given)
        finally:
            sys.setrecursionlimit(limit)

    def test_always_trees_show_that_there_is_none(self):
        chance = random.Random(12)
        for _ in range(60):
            shape = few_shape(chance, columns=4, checks=3, keys=3)
            for word in CLAIM_WORDS:
                claim = few_claim(chance, shape, word)
                answer = claim_holds(shape, claim)
                self.assertIs(shows_claim(shape, claim, answer), True)
                if answer[0] == "always":
                    for (n, wants), tree in zip(cases_of(shape, claim), answer[1]):
                        self.assertIs(shows_none(copies(shape, n), wants, tree), True)

    def test_empty_places_in_every_column(self):
        shape = Shape([("a", "number", False), ("b", "text", False)], keys=[(["a", "b"], None)])
        store = Store(shape)
        store |= [{"a": None, "b": None}] * 60
        self.assertEqual(len(list(store.ask(Plan([("distinct", ["a", "b"])])))), 1)
        self.assertEqual(claim_holds(shape, ("apart", always(), ["a", "b"]))[0], "rows")
        self.assertEqual(claim_holds(shape, ("apart", ~(empty("a") | empty("b")), ["a", "b"]))[0], "always")


if __name__ == "__main__":
    unittest.main()
