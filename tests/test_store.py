"""Points [68] to [71]: the class Store."""

import itertools
import random
import unittest

from tests.helper import Refusals, joined, odd_things
from tests.small import few_plan, few_shape, few_test, large_shapes
from tests.test_claims import no_sequences
from tworows.errors import BadDeed, BadPlan, BadRow, BadTable, BadTest, CheckFails, KeyClash, NoRow, RowsError, TooMany
from tworows.logic import always, begins, compare, empty, never
from tworows.plans import Plan, run
from tworows.shapes import Shape, check_table, may_stand
from tworows.store import Store

PLAIN = Shape([("a", "number", False), ("b", "text", False), ("c", "number", False)])
LOW = compare("a", "<", 9)
SHAPE = Shape(
    [("a", "number", False), ("b", "text", True), ("c", "number", True)], checks=[LOW, compare("c", ">=", 0)],
    keys=[(("a",), None), (("b", "c"), compare("a", ">", 0) & compare("b", "!=", ""))],
)
DEED_WORDS = {"put": 2, "set": 3, "drop": 2, "change": 3, "strike": 2}


def row(a=None, b="", c=0):
    return {"a": a, "b": b, "c": c}


def filled_store(*rows, shape=SHAPE):
    store = Store(shape)
    for one in rows:
        store.put(one)
    return store


class Stores(unittest.TestCase, Refusals):
    def state(self, store):
        """All that can be seen of a store, the next id too."""
        twin = store.twin()
        upcoming = None
        if len(twin):
            twin.strike(always())
            for one in twin.ids():
                twin.drop(one)
        probe = {name: (0 if kind == "number" else "") for name, kind, _ in store.shape().columns()}
        try:
            upcoming = twin.put(probe)
        except RowsError:
            pass
        return store.shape(), store.ids(), store.table(), upcoming

    def unchanged(self, store, kind, told, call, *given):
        """The call is refused with this error and changes nothing."""
        before = self.state(store)
        self.refused(kind, told, call, *given)
        self.assertEqual(self.state(store), before)


def set_at(store, row_id, thing):
    store[row_id] = thing


def let_in(store, rows):
    store |= rows


class PutTest(Stores):
    def test_ids(self):
        store = Store(SHAPE)
        self.assertEqual([store.put(row(at)) for at in range(1, 4)], [1, 2, 3])
        self.assertEqual((store.ids(), len(store)), ([1, 2, 3], 3))
        self.assertEqual(store.drop(2), row(2))
        self.assertEqual(store.drop(3), row(3))
        self.assertEqual(store.put(row(5)), 4)
        self.assertEqual((store.ids(), store.table()), ([1, 4], [row(1), row(5)]))
        self.assertEqual(store.shape(), SHAPE)

    def test_a_row_that_is_refused_uses_up_no_id(self):
        store = filled_store(row(1))
        for wrong in (None, {}, row("x"), row(9), row(1), row(2, None)):
            with self.assertRaises(RowsError):
                store.put(wrong)
        self.assertEqual(store.put(row(2)), 2)

    def test_bad_rows(self):
        store = filled_store(row(1))
        for thing in odd_things() + [5, "", [row(2)], SHAPE, LOW, store]:
            self.unchanged(store, BadRow, {"column": None}, store.put, thing)
        for name, thing in [
            ("a", {}), ("a", {"b": "", "c": 0}), ("b", {"a": 1, "c": 0}), ("a", row("x")), ("b", row(1, 2)), ("c", row(1, "", True)), ("a", row(True)),
            (None, {**row(2), "d": 1}), ("c", {"a": 1, "b": "", "d": 1}), ("b", row(1, "\n", "x")), ("b", row(2, "100%")),
        ]:
            self.unchanged(store, BadRow, {"column": name}, store.put, thing)
        for thing in odd_things():
            if thing is not None:
                self.unchanged(store, BadRow, {"column": "a"}, store.put, row(thing))

    def test_60_rows(self):
        store = Store(PLAIN)
        for at in range(60):
            self.assertEqual(store.put(row(at)), at + 1)
        self.unchanged(store, TooMany, {"limit": 60}, store.put, row(60))
        self.unchanged(store, BadRow, {"column": "a"}, store.put, row("x"))
        store.drop(7)
        self.assertEqual(store.put(row(7)), 61)
        self.assertEqual(len(store), 60)

    def test_too_many_is_ahead_of_a_fault(self):
        store = Store(SHAPE)
        for _ in range(60):
            store.put(row(None, "", 0))
        self.unchanged(store, TooMany, {"limit": 60}, store.put, row(None, None, None))

    def test_faults(self):
        store = filled_store(row(1, "x", 5), row(2, "y", 5))
        for kind, at, thing in [
            (CheckFails, "b", row(9, None, None)), (CheckFails, "c", row(9, "", None)), (CheckFails, 0, row(9, "", -1)), (CheckFails, 1, row(1, "x", -1)),
            (KeyClash, 0, row(1, "x", 5)), (KeyClash, 0, row(2, "x", 5)), (KeyClash, 1, row(3, "x", 5)), (CheckFails, "b", row(1, None, 5)),
        ]:
            self.unchanged(store, kind, {"row_id": 3, "at": at}, store.put, thing)
        self.assertEqual(store.put(row(-1, "x", 5)), 3)
        self.assertEqual(store.put(row(None, "x", 5)), 4)
        self.assertEqual(store.put(row(None, "x", 5)), 5)

    def test_large_shapes_and_no_rules(self):
        for shape in large_shapes():
            store = Store(shape)
            one = {name: None for name in shape.names()}
            self.assertEqual((store.put(one), store.put(one), len(store)), (1, 2, 2))
        self.assertEqual((len(Store(PLAIN)), Store(PLAIN).ids(), Store(PLAIN).table()), (0, [], []))


class RowsTest(Stores):
    ODD_IDS = [0, -1, 4, 10 ** 30, "1", "a", (1,), [1], {1: 1}, True, False, None]

    def test_get(self):
        store = filled_store(row(1), row(2), row(3))
        store.drop(2)
        self.assertEqual((store[1], store[3]), (row(1), row(3)))
        for thing in self.ODD_IDS + [2] + odd_things():
            self.unchanged(store, NoRow, {"row_id": thing}, lambda: store[thing])

    def test_drop(self):
        store = filled_store(row(1), row(2), row(3))
        for thing in self.ODD_IDS + odd_things():
            self.unchanged(store, NoRow, {"row_id": thing}, store.drop, thing)
        self.assertEqual(store.drop(2), row(2))
        self.unchanged(store, NoRow, {"row_id": 2}, store.drop, 2)
        self.assertEqual(store.ids(), [1, 3])

    def test_in_and_len(self):
        store = filled_store(row(1), row(2))
        store.drop(1)
        self.assertIs(2 in store, True)
        for thing in self.ODD_IDS + [1, 3, row(2), store] + odd_things():
            self.assertIs(thing in store, False)
            self.assertIs(thing not in store, True)
        self.assertEqual(len(store), 1)

    def test_set(self):
        store = filled_store(row(1), row(2), row(3))
        store[2] = row(7, "z", 1)
        self.assertEqual((store.ids(), store.table()), ([1, 2, 3], [row(1), row(7, "z", 1), row(3)]))
        store[2] = row(7, "z", 1)
        store[1] = row(2)
        self.assertEqual(store[1], row(2))
        self.assertEqual(store.put(row(4)), 4)

    def test_set_refused(self):
        store = filled_store(row(1), row(2, "x", 2), row(3, "x", 3))
        for thing in self.ODD_IDS + odd_things():
            self.unchanged(store, NoRow, {"row_id": thing}, set_at, store, thing, None)
        for name, thing in [(None, None), ("a", row("x")), ("b", {"a": 1}), (None, {**row(9), "d": 1})]:
            self.unchanged(store, BadRow, {"column": name}, set_at, store, 2, thing)
        for kind, row_id, at, thing in [
            (CheckFails, 2, "b", row(9, None)), (CheckFails, 2, 0, row(9)), (KeyClash, 2, 0, row(1)), (KeyClash, 3, 0, row(3)),
            (KeyClash, 3, 1, row(4, "x", 3)), (CheckFails, 2, 1, row(1, "", -1)),
        ]:
            self.unchanged(store, kind, {"row_id": row_id, "at": at}, set_at, store, 2, thing)

    def test_nothing_is_shared(self):
        given = row(1)
        store = filled_store(given, shape=PLAIN)
        for one in (given, store[1], store.table()[0], store.twin()[1], next(store.ask(Plan([])))):
            one["a"] = 77
            one["z"] = 1
            self.assertEqual(store.table(), [row(1)])
        store[1] = given = row(2)
        given["a"] = 77
        self.assertEqual(store[1], row(2))
        store.ids().append(5)
        store.table().append(5)
        self.assertEqual((store.ids(), len(store.table())), ([1], 1))
        rows = [row(3), row(4)]
        store |= rows
        rows[0]["a"] = 77
        rows.clear()
        self.assertEqual(store.table(), [row(2), row(3), row(4)])
        deed = ["put", row(5)]
        store.together([deed])
        deed[1]["a"] = 77
        self.assertEqual(store[4], row(5))
        answer = store.together([["drop", 4]])[0]
        self.assertEqual(answer, row(5))
        sets = {"a": ["value", 8]}
        store.change(compare("a", "==", 4), sets)
        sets["a"][1] = 77
        self.assertEqual(store[3], row(8))

    def test_iterating_is_refused(self):
        with self.assertRaises(TypeError):
            list(filled_store(row(1)))


class ChangeTest(Stores):
    def changed(self, store, test, sets, many, *rows):
        ids = store.ids()
        for order in itertools.permutations(sets):
            twin = store.twin()
            self.assertEqual(twin.change(test, {name: sets[name] for name in order}), many)
            self.assertEqual(twin.table(), list(rows))
            self.assertEqual(twin.ids(), ids)
        twin = store.twin()
        self.assertEqual(twin.change(test, {name: list(told) for name, told in sets.items()}), many)
        self.assertEqual(twin.table(), list(rows))

    def test_new_values(self):
        store = filled_store(row(1, "x", 5), row(None, "y", 6), row(3, "z", None), shape=PLAIN)
        one, two, three = store.table()
        low = compare("a", "<", 2)
        self.changed(store, low, {"a": ("value", 7)}, 1, row(7, "x", 5), two, three)
        self.changed(store, low, {"a": ("value", None), "b": ("value", None)}, 1, row(None, None, 5), two, three)
        self.changed(store, always(), {"b": ("value", "")}, 3, row(1, "", 5), row(None, "", 6), row(3, "", None))
        self.changed(store, always(), {}, 3, one, two, three)
        self.changed(store, never(), {"a": ("value", 5)}, 0, one, two, three)
        self.changed(store, ~low, {"a": ("value", 5)}, 1, one, two, row(5, "z", None))
        self.changed(store, empty("a"), {"a": ("value", 5)}, 1, one, row(5, "y", 6), three)

    def test_values_of_other_columns(self):
        store = filled_store(row(1, "x", 5), row(None, "y", 6), row(3, "z", None), shape=PLAIN)
        one, two, three = store.table()
        self.changed(store, always(), {"a": ("column", "c")}, 3, row(5, "x", 5), row(6, "y", 6), row(None, "z", None))
        self.changed(store, always(), {"a": ("column", "c"), "c": ("column", "a")}, 3, row(5, "x", 1), row(6, "y", None), row(None, "z", 3))
        self.changed(store, always(), {"a": ("column", "a"), "b": ("column", "b")}, 3, one, two, three)
        self.changed(store, always(), {"a": ("more", 10), "c": ("column", "a")}, 3, row(11, "x", 1), row(None, "y", None), row(13, "z", 3))

    def test_more(self):
        store = filled_store(row(1, "x", 5), row(None, "y", 6), row(3, "z", None), shape=PLAIN)
        self.changed(store, always(), {"a": ("more", -4)}, 3, row(-3, "x", 5), row(None, "y", 6), row(-1, "z", None))
        self.changed(store, always(), {"a": ("more", 0), "c": ("more", 10 ** 29)}, 3, row(1, "x", 5 + 10 ** 29), row(None, "y", 6 + 10 ** 29), row(3, "z", None))

    def test_rows_that_exchange_places(self):
        store = filled_store(row(1, "x"), row(2, "y"), row(3, "z"))
        self.assertEqual(store.change(always(), {"a": ("more", 1)}), 3)
        self.assertEqual([one["a"] for one in store.table()], [2, 3, 4])
        shape = Shape(PLAIN.columns(), keys=[(["a"], None)])
        store = filled_store(row(1, "x", 2), row(2, "y", 1), shape=shape)
        self.assertEqual(store.change(always(), {"a": ("column", "c")}), 2)
        self.assertEqual(store.table(), [row(2, "x", 2), row(1, "y", 1)])
        self.unchanged(store, KeyClash, {"row_id": 2, "at": 0}, store.change, always(), {"a": ("value", 5)})

    def test_wrong_tests(self):
        store = filled_store(row(1))
        for thing in odd_things() + ["a < 1", store]:
            self.unchanged(store, BadTest, {"why": "part"}, store.change, thing, None)
            self.unchanged(store, BadTest, {"why": "part"}, store.strike, thing)
        for test in (empty("z"), compare("a", "<", "x"), begins("a", "x")):
            self.unchanged(store, BadTest, {"why": "column"}, store.change, test, None)
            self.unchanged(store, BadTest, {"why": "column"}, store.strike, test)

    def test_wrong_sets(self):
        store = filled_store(row(1))
        for thing in odd_things() + [5, "a", [("a", ("value", 1))], store]:
            self.unchanged(store, BadRow, {"column": None}, store.change, always(), thing)
        for key in ("z", "A", "", 1, None, True, ("a",), b"a", LOW.kind, frozenset()):
            self.unchanged(store, BadRow, {"column": None}, store.change, never(), {key: ("value", 1)})
            self.unchanged(store, BadRow, {"column": None}, store.change, always(), {"a": None, key: ("value", 1)})
            self.unchanged(store, BadRow, {"column": None}, store.change, always(), {key: ("value", 1), "a": None})

    def test_wrong_items(self):
        store = filled_store(row(1))
        wrong = odd_things() + [
            5, "value", (), ("value",), ("value", 1, 1), ("Value", 1), ("x", 1), (b"value", 1), (None, 1), ("column",), ("column", "z"), ("column", "b"),
            ("column", None), ("column", 1), ("column", ["a"]), ("column", "A"), ("more",), ("more", None), ("more", "1"), ("more", True), ("more", 1, 1),
            ("value", "1"), ("value", True), ("value", ["a"]), {"value": 1}, ("more", [1]),
        ]
        for thing in wrong:
            for test in (always(), never()):
                self.unchanged(store, BadRow, {"column": "a"}, store.change, test, {"a": thing})
            self.unchanged(store, BadRow, {"column": "a"}, store.change, always(), {"c": thing, "b": thing, "a": thing})
            self.unchanged(store, BadRow, {"column": "c"}, store.change, always(), {"c": thing, "b": ("value", "x"), "a": ("value", 1)})
        for thing in (("more", 1), ("more", 0), ("value", 1), ("column", "a"), ("column", "c"), ("value", "%"), ("value", "\n")):
            self.unchanged(store, BadRow, {"column": "b"}, store.change, always(), {"b": thing, "c": None})
        for thing in odd_things():
            if thing is not None:
                self.unchanged(store, BadRow, {"column": "a"}, store.change, always(), {"a": ("value", thing)})
            self.unchanged(store, BadRow, {"column": "a"}, store.change, always(), {"a": ("more", thing)})
            self.unchanged(store, BadRow, {"column": "a"}, store.change, always(), {"a": ("column", thing)})

    def test_faults_of_all_rows(self):
        store = filled_store(row(1, "x", 5), row(2, "y", 6), row(None, "x", 5), row(5, "x", 7))
        for kind, row_id, at, sets in [
            (CheckFails, 1, "b", {"b": ("value", None), "a": ("value", 9)}), (CheckFails, 4, 0, {"a": ("more", 4)}),
            (CheckFails, 1, 0, {"a": ("value", 9)}), (KeyClash, 2, 0, {"a": ("value", 8)}), (KeyClash, 4, 1, {"c": ("value", 1)}),
            (CheckFails, 1, 1, {"c": ("more", -10), "b": ("value", "x")}), (CheckFails, 3, "c", {"c": ("column", "a")}),
        ]:
            self.unchanged(store, kind, {"row_id": row_id, "at": at}, store.change, always(), sets)
        self.assertEqual(store.change(always(), {"a": ("value", None)}), 4)

    def test_strike(self):
        store = filled_store(row(1), row(2), row(None), row(3))
        self.assertEqual(store.strike(never()), 0)
        self.assertEqual(store.strike(compare("a", ">", 1)), 2)
        self.assertEqual(store.ids(), [1, 3])
        self.assertEqual(store.strike(always()), 2)
        self.assertEqual((len(store), store.put(row(1))), (0, 5))


class SeveralTest(Stores):
    def test_let_in(self):
        store = filled_store(row(1))
        same = store
        store |= [row(2), row(3)]
        self.assertIs(store, same)
        store |= (row(4),)
        self.assertEqual((store.ids(), [one["a"] for one in store.table()]), ([1, 2, 3, 4], [1, 2, 3, 4]))

    def test_no_rows(self):
        store = filled_store(row(1))
        before = self.state(store)
        store |= []
        store |= ()
        self.assertEqual(self.state(store), before)

    def test_refused(self):
        store = filled_store(row(1), row(2))
        for thing in no_sequences(odd_things()) + ["", {}, row(3), store]:
            self.unchanged(store, BadTable, {"why": "rows", "at": -1}, let_in, store, thing)
        for thing in odd_things() + [row("x"), {}, {"a": 1, "b": ""}, {**row(3), "d": 1}]:
            self.unchanged(store, BadTable, {"why": "rows", "at": 0}, let_in, store, [thing, None])
            self.unchanged(store, BadTable, {"why": "rows", "at": 2}, let_in, store, (row(3), row(9), thing))
            self.unchanged(store, BadTable, {"why": "rows", "at": 70}, let_in, store, [row(3)] * 70 + [thing])
        self.unchanged(store, TooMany, {"limit": 60}, let_in, store, [row(9, None)] * 59)
        for kind, row_id, at, rows in [
            (CheckFails, 4, 0, [row(3), row(9), row(1)]), (KeyClash, 3, 0, [row(1), row(9)]), (KeyClash, 5, 0, [row(3), row(None), row(3)]),
            (CheckFails, 3, "b", [row(9, None)]), (KeyClash, 4, 1, [row(3, "x", 1), row(4, "x", 1)]),
        ]:
            self.unchanged(store, kind, {"row_id": row_id, "at": at}, let_in, store, rows)

    def test_just_60(self):
        store = filled_store(row(1), row(2), shape=PLAIN)
        self.unchanged(store, TooMany, {"limit": 60}, let_in, store, [row(9)] * 59)
        store |= [row(9)] * 58
        self.assertEqual(len(store), 60)
        self.unchanged(store, TooMany, {"limit": 60}, let_in, store, [row(9)])
        store |= []


class AskTest(Stores):
    def test_rows_of_run(self):
        store = filled_store(row(3), row(1), row(None), row(2))
        plan = Plan([("keep", ~empty("a")), ("sort", [("a", "up")]), ("flip",)])
        for _ in range(3):
            self.assertEqual([one["a"] for one in store.ask(plan)], [3, 2, 1])
        self.assertEqual(list(store.ask(Plan([]))), store.table())
        self.assertEqual(list(Store(SHAPE).ask(plan)), [])
        self.assertEqual(next(store.ask(plan)), row(3))

    def test_a_generator(self):
        told = filled_store(row(1)).ask(Plan([]))
        self.assertIs(iter(told), told)

    def test_by_chance(self):
        chance = random.Random(70)
        for _ in range(60):
            shape = few_shape(chance)
            store = Store(shape)
            for _ in range(4):
                try:
                    store.put({name: chance.choice((None, 0, 1) if kind == "number" else (None, "", "a")) for name, kind, _ in shape.columns()})
                except RowsError:
                    pass
            plan = few_plan(chance, shape)
            self.assertEqual(list(store.ask(plan)), run(shape, plan, store.table()))

    def test_a_refused_plan(self):
        store = filled_store(row(1))
        for thing in odd_things() + [[], "first"]:
            self.unchanged(store, BadPlan, {"why": "plan", "at": -1}, lambda: list(store.ask(thing)))
        self.unchanged(store, BadPlan, {"why": "shape", "at": 1}, lambda: list(store.ask(Plan([("flip",), ("distinct", ["z"])]))))

    def test_a_large_shape(self):
        for shape in large_shapes():
            store = Store(shape)
            store.put({name: None for name in shape.names()})
            self.assertEqual(len(list(store.ask(Plan([("flip",)])))), 1)


class EqualTest(Stores):
    def test_equal(self):
        one, other = filled_store(row(1), row(2)), filled_store(row(1), row(2))
        self.assertIs(one == other, True)
        self.assertIs(one != other, False)
        other.drop(2)
        self.assertIs(one == other, False)
        other.put(row(2))
        self.assertIs(one == other, False)
        self.assertEqual(one.table(), other.table())
        one.drop(2)
        other.drop(3)
        self.assertIs(one == other, True)

    def test_the_next_id_does_not_count(self):
        one, other = filled_store(row(1)), filled_store(row(1), row(2), row(3))
        other.strike(compare("a", ">", 1))
        self.assertIs(one == other, True)
        self.assertEqual((one.put(row(2)), other.put(row(2))), (2, 4))
        self.assertIs(one == other, False)

    def test_shapes_and_other_things(self):
        self.assertIs(Store(SHAPE) == Store(PLAIN), False)
        self.assertIs(Store(PLAIN) == Store(Shape(PLAIN.columns())), True)
        store = filled_store(row(1))
        for thing in odd_things() + [store.table(), {1: row(1)}, SHAPE, 1]:
            self.assertIs(store == thing, False)
            self.assertIs(store != thing, True)

    def test_twin(self):
        store = filled_store(row(1), row(2), row(3))
        store.drop(3)
        twin = store.twin()
        self.assertIs(type(twin), Store)
        self.assertEqual(twin, store)
        self.assertEqual(twin.put(row(3)), 4)
        self.assertEqual(store.ids(), [1, 2])
        store[1] = row(7)
        self.assertEqual((twin[1], store[1]), (row(1), row(7)))
        self.assertEqual(store.put(row(8)), 4)
        store.strike(always())
        self.assertEqual(twin.ids(), [1, 2, 4])
        self.assertEqual(twin.twin().put(row(8)), 5)


class TogetherTest(Stores):
    def test_each_deed_and_its_answer(self):
        store = filled_store(row(1), row(2))
        deeds = [
            ("put", row(3)), ["set", 1, row(5)], ("drop", 2), ("change", compare("a", ">", 3), {"b": ("value", "q")}), ("strike", compare("a", "==", 3)),
            ("put", row(6)),
        ]
        for given in (deeds, tuple(deeds), [list(deed) for deed in deeds]):
            twin = store.twin()
            told = twin.together(given)
            self.assertIs(type(told), list)
            self.assertEqual(told, [3, None, row(2), 1, 1, 4])
            self.assertEqual((twin.ids(), twin.table()), ([1, 4], [row(5, "q"), row(6)]))
            self.assertEqual(twin.put(row(7)), 5)
        self.assertEqual(store.ids(), [1, 2])
        self.assertEqual(store.together([]), [])
        self.assertEqual(store.together(()), [])

    def test_only_together_they_keep_the_rules(self):
        store = filled_store(row(1), row(2))
        self.assertEqual(store.together([("set", 1, row(2)), ("set", 2, row(1))]), [None, None])
        self.assertEqual([one["a"] for one in store.table()], [2, 1])
        self.assertEqual(store.together([("put", row(2)), ("drop", 1)]), [3, row(2)])
        self.assertEqual(store.together([("put", row(99, None, -5)), ("change", compare("a", ">", 9), {"a": ("value", 5), "b": ("value", ""), "c": ("value", 0)})]), [4, 1])
        self.assertEqual(store.together([("change", always(), {"a": ("value", 7)}), ("strike", always())]), [3, 3])
        self.assertEqual(len(store), 0)

    def test_deeds_see_what_is_ahead(self):
        store = filled_store(row(1))
        told = store.together([("put", row(2)), ("set", 2, row(3)), ("change", compare("a", "==", 3), {"a": ("more", 10 ** 30)}), ("drop", 2), ("put", row(4))])
        self.assertEqual(told, [2, None, 1, row(3 + 10 ** 30), 3])
        self.assertEqual(store.ids(), [1, 3])

    def test_no_deeds(self):
        store = filled_store(row(1))
        for thing in no_sequences(odd_things()) + ["put", {}, store]:
            self.unchanged(store, BadDeed, {"at": -1}, store.together, thing)
        good = ("put", row(2))
        wrong = odd_things() + ["put", "", (), [], ("x", 1), ("Put", row(2)), (b"put", row(2)), (None, 1), (["put"], 1), {"put": 1}, good[1], store]
        for word, parts in DEED_WORDS.items():
            wrong += [(word,) + (1,) * many for many in range(5) if many != parts - 1]
        for thing in wrong:
            self.unchanged(store, BadDeed, {"at": 0}, store.together, [thing])
            self.unchanged(store, BadDeed, {"at": 2}, store.together, (("drop", 99), good, thing, None))
            self.unchanged(store, TooMany, {"limit": 30}, store.together, [thing] * 31)

    def test_30_and_31_deeds(self):
        store = Store(PLAIN)
        self.assertEqual(store.together([("put", row(1))] * 30), list(range(1, 31)))
        self.unchanged(store, TooMany, {"limit": 30}, store.together, [("put", row(1))] * 31)
        self.assertEqual(store.together([["put", row(1)]] * 30), list(range(31, 61)))
        self.unchanged(store, TooMany, {"limit": 60}, store.together, [("put", row(1))])

    def test_a_deed_that_is_refused_in_the_midst(self):
        store = filled_store(row(1), row(2))
        good = [("put", row(3)), ("drop", 1)]
        for kind, told, deed in [
            (BadRow, {"column": None}, ("put", None)), (BadRow, {"column": "a"}, ("put", row("x"))), (NoRow, {"row_id": 1}, ("drop", 1)),
            (NoRow, {"row_id": True}, ("drop", True)), (NoRow, {"row_id": 9}, ("set", 9, None)), (BadRow, {"column": "b"}, ("set", 2, row(1, 2))),
            (BadTest, {"why": "part"}, ("strike", None)), (BadTest, {"why": "column"}, ("change", empty("z"), None)),
            (BadRow, {"column": None}, ("change", always(), None)), (BadRow, {"column": "a"}, ("change", always(), {"a": ("value", "x")})),
            (NoRow, {"row_id": [1]}, ("drop", [1])), (NoRow, {"row_id": "x"}, ("set", "x", row(1))),
        ]:
            self.unchanged(store, kind, told, store.together, good + [deed] + [("put", None)])
            self.unchanged(store, kind, told, store.together, [("put", row(1))] + good + [deed])
        for thing in odd_things():
            self.unchanged(store, BadRow, {"column": None}, store.together, [("put", thing)])
            self.unchanged(store, NoRow, {"row_id": thing}, store.together, [("drop", thing)])

    def test_too_many_behind_any_deed(self):
        store = Store(PLAIN)
        store |= [row(1)] * 60
        self.unchanged(store, TooMany, {"limit": 60}, store.together, [("put", row(1)), ("drop", 1)])
        self.assertEqual(store.together([("drop", 1), ("put", row(2))]), [row(1), 61])
        self.unchanged(store, TooMany, {"limit": 60}, store.together, [("drop", 2), ("put", row(1)), ("put", row(1)), ("strike", always())])

    def test_faults_behind_the_last_deed(self):
        store = filled_store(row(1, "x", 1), row(2, "y", 2))
        for kind, row_id, at, deeds in [
            (KeyClash, 2, 0, [("set", 1, row(2))]), (CheckFails, 1, 0, [("put", row(9)), ("set", 1, row(9)), ("drop", 3)]),
            (KeyClash, 4, 0, [("put", row(3)), ("put", row(3)), ("put", row(9))]), (CheckFails, 4, "b", [("put", row(3)), ("put", row(3, None))]),
            (KeyClash, 3, 1, [("put", row(3, "x", 1))]), (CheckFails, 2, 1, [("change", compare("a", "==", 2), {"c": ("more", -3)})]),
        ]:
            self.unchanged(store, kind, {"row_id": row_id, "at": at}, store.together, deeds)

    def test_together_is_one_behind_the_other(self):
        chance = random.Random(71)
        done = 0
        for _ in range(400):
            store = filled_store(row(1, "x"), row(2, "y"), row(None, "z"))
            deeds = [random_deed(chance) for _ in range(chance.randint(1, 4))]
            alone, answers, error = filled_store(row(1, "x"), row(2, "y"), row(None, "z")), [], None
            for deed in deeds:
                try:
                    answers.append(do(alone, deed))
                except (CheckFails, KeyClash):
                    error = "fault"
                    break
                except RowsError as caught:
                    error = caught
                    break
            if error is None:
                done += 1
                self.assertEqual(store.together(deeds), answers)
                self.assertEqual(self.state(store), self.state(alone))
            elif error != "fault":
                self.unchanged(store, type(error), vars(error), store.together, deeds)
        self.assertGreater(done, 80)


def random_deed(chance):
    """A deed for a store of three rows, often a good one."""
    one = row(chance.choice((None, 1, 2, 3, 4, 5, 9)), chance.choice(("x", "y", "z", "q", "r", None)), chance.choice((0, 1, 2)))
    test = chance.choice((compare("a", "<", 2), empty("a"), always(), compare("b", "==", "x"), empty("z")))
    return chance.choice((
        ("put", one), ("put", one), ("set", chance.randint(1, 4), one), ("drop", chance.randint(1, 4)),
        ("change", test, {"c": ("value", chance.randint(-1, 3)), "a": ("more", chance.choice((0, 5)))}), ("strike", test),
    ))


def do(store, deed):
    """What a deed does alone, and its answer."""
    if deed[0] == "set":
        store[deed[1]] = deed[2]
        return None
    return getattr(store, deed[0])(*deed[1:])


class AlwaysATableTest(Stores):
    def fault(self, shape, held):
        """The fault of rows under ids by the words of point [69], or None."""
        ids = sorted(held)
        for at, row_id in enumerate(ids):
            here = held[row_id]
            for name, _, filled in shape.columns():
                if filled and here[name] is None:
                    return CheckFails, {"row_id": row_id, "at": name}
            for index, test in enumerate(shape.checks()):
                if test.truth(here) is False:
                    return CheckFails, {"row_id": row_id, "at": index}
            for index, key in enumerate(shape.unique_keys()):
                alone = Shape([(name, kind, False) for name, kind, _ in shape.columns()], keys=[key])
                if any(not may_stand(alone, [held[other], here]) for other in ids[:at]):
                    return KeyClash, {"row_id": row_id, "at": index}
        return None

    def test_deeds_by_chance(self):
        chance = random.Random(69)
        faults = 0
        for _ in range(150):
            shape = few_shape(chance, columns=3, checks=3, keys=3)
            store, held, upcoming = Store(shape), {}, 1
            for _ in range(8):
                one = {name: chance.choice((None, 0, 1, 2) if kind == "number" else (None, "", "a", "b")) for name, kind, _ in shape.columns()}
                row_id = chance.randint(1, 5)
                word = chance.choice(("put", "put", "put", "set", "change"))
                new = dict(held)
                if word == "put":
                    new[upcoming] = one
                    call = (store.put, one)
                elif word == "set" and row_id in held:
                    new[row_id] = one
                    call = (set_at, store, row_id, one)
                else:
                    test, name = few_test(chance, shape), chance.choice(shape.names())
                    new = {at: {**old, name: one[name]} if test.truth(old) is True else old for at, old in held.items()}
                    call = (store.change, test, {name: ("value", one[name])})
                fault = self.fault(shape, new)
                if fault is None:
                    answer = call[0](*call[1:])
                    if word == "put":
                        self.assertEqual(answer, upcoming)
                        upcoming += 1
                    held = new
                else:
                    faults += 1
                    self.refused(*fault, *call)
                self.assertEqual((store.ids(), store.table()), (sorted(held), [held[at] for at in sorted(held)]))
                check_table(shape, store.table())
        self.assertGreater(faults, 100)

    def test_wide_tests(self):
        store = filled_store(row(1), row(2), shape=PLAIN)
        self.assertEqual(store.strike(joined([compare("a", "==", at) for at in range(24)])), 2)


if __name__ == "__main__":
    unittest.main()
