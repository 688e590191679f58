"""Points [23] and [24]: rows and tables of a shape."""

import itertools
import unittest

from tests.helper import Refusals, odd_things
from tworows.errors import BadRow, BadTable
from tworows.logic import always, compare, empty, never
from tworows.shapes import Shape, check_row, check_table, fits_row, may_stand

PLAIN = Shape([("n", "number", False), ("t", "text", False)])
RULED = Shape(
    [("n", "number", True), ("m", "number", False), ("t", "text", False)],
    checks=[compare("n", "<", 10), compare("m", ">", 0)],
)


class RowTest(unittest.TestCase, Refusals):
    def bad(self, column, row, shape=PLAIN):
        self.refused(BadRow, {"column": column}, check_row, shape, row)
        self.assertIs(fits_row(shape, row), False)

    def good(self, row, shape=PLAIN):
        self.assertIsNone(check_row(shape, row))
        self.assertIs(fits_row(shape, row), True)

    def test_right_rows(self):
        for held in (None, 0, -5, 10 ** 40):
            for text in (None, "", "a b", "~", "x" * 50):
                self.good({"n": held, "t": text})

    def test_the_order_of_the_keys_has_no_meaning(self):
        self.good({"t": "a", "n": 1})

    def test_what_is_no_dict(self):
        for thing in odd_things() + [1, "n", [("n", 1), ("t", "a")], ("n", "t"), PLAIN, always()]:
            self.bad(None, thing)

    def test_a_missing_key(self):
        self.bad("n", {"t": "a"})
        self.bad("t", {"n": 1})
        self.bad("n", {})
        self.bad("n", {"N": 1, "t": 5})

    def test_a_further_key(self):
        for key in ("m", "", 1, None, True, ("n",), b"no", always):
            self.bad(None, {"n": 1, "t": "a", key: None})

    def test_a_further_key_is_looked_at_last(self):
        self.bad("t", {"n": 1, "t": 2, "m": None})
        self.bad("t", {"n": 1, "m": "a"})

    def test_values_of_another_kind(self):
        for thing in odd_things() + ["1", "", {}, always()]:
            if thing is not None:
                self.bad("n", {"n": thing, "t": "a"})
        for thing in odd_things() + [1, 0, {}, always(), "a\n", "a\tb", "5%", "\x7f", "\u00e9"]:
            if thing is not None:
                self.bad("t", {"n": 1, "t": thing})

    def test_the_first_column_decides(self):
        self.bad("n", {"n": "a", "t": 1})
        self.bad("t", {"t": 1, "n": "a"}, Shape([("t", "text", False), ("n", "number", False)]))

    def test_filled_columns_and_checks_are_no_matter_of_check_row(self):
        for row in ({"n": None, "m": None, "t": None}, {"n": 10, "m": 1, "t": ""}, {"n": 1, "m": 0, "t": ""}):
            self.assertIsNone(check_row(RULED, row))
            self.assertIs(fits_row(RULED, row), False)

    def test_rows_that_keep_the_rules(self):
        for row in ({"n": 9, "m": 1, "t": None}, {"n": -9, "m": None, "t": ""}):
            self.good(row, RULED)

    def test_a_check_that_is_unknown_is_kept(self):
        self.good({"n": 1}, Shape([("n", "number", False)], checks=[always()]))
        self.good({"n": None}, Shape([("n", "number", False)], checks=[compare("n", "<", 0)]))
        self.bad_rule({"n": None}, Shape([("n", "number", False)], checks=[~empty("n")]))
        self.bad_rule({"n": 1}, Shape([("n", "number", False)], checks=[always(), never()]))

    def bad_rule(self, row, shape):
        self.assertIsNone(check_row(shape, row))
        self.assertIs(fits_row(shape, row), False)

    def test_keys_are_no_matter_of_one_row(self):
        self.good({"n": 1, "t": "a"}, PLAIN.with_key((("n",), None)))

    def test_the_row_stays_as_it_is(self):
        row = {"t": "a", "n": 1}
        check_row(PLAIN, row)
        fits_row(PLAIN, row)
        self.assertEqual(list(row.items()), [("t", "a"), ("n", 1)])


class Tables(Refusals):
    def bad(self, why, at, rows, shape):
        for table in (rows, tuple(rows) if isinstance(rows, list) else rows):
            self.refused(BadTable, {"why": why, "at": at}, check_table, shape, table)
            self.assertIs(may_stand(shape, table), False)

    def good(self, rows, shape):
        for table in (rows, tuple(rows)):
            self.assertIsNone(check_table(shape, table))
            self.assertIs(may_stand(shape, table), True)


class TableTest(unittest.TestCase, Tables):
    def test_no_sequence(self):
        for thing in odd_things() + [1, "", {}, {"n": 1}, PLAIN]:
            if not isinstance(thing, (list, tuple)):
                self.bad("rows", -1, thing, PLAIN)

    def test_at_most_60_rows(self):
        row = {"n": 1, "t": "a"}
        self.good([], PLAIN)
        self.good([row] * 60, PLAIN)
        self.bad("rows", -1, [row] * 61, PLAIN)
        self.bad("rows", -1, [None] * 61, PLAIN)

    def test_equal_rows_without_a_key(self):
        self.good([{"n": 1, "t": "a"}, {"n": 1, "t": "a"}], PLAIN)

    def test_an_item_that_is_no_row(self):
        row = {"n": 1, "t": "a"}
        for thing in odd_things() + [{}, {"n": 1}, {"n": "1", "t": "a"}, {"n": 1, "t": "a", "m": 2}, "n"]:
            for at in (0, 1, 5, 59):
                self.bad("rows", at, [row] * at + [thing] + [row] * (59 - at), PLAIN)
        self.bad("rows", 1, [row, {}, None], PLAIN)

    def test_no_row_is_ahead_of_all_other_faults(self):
        empty_place = {"n": None, "m": None, "t": None}
        self.bad("rows", 2, [empty_place, empty_place, {}], RULED)

    def test_filled_and_check(self):
        good, unfilled = {"n": 1, "m": 1, "t": ""}, {"n": None, "m": 1, "t": ""}
        broken, both = {"n": 1, "m": -1, "t": ""}, {"n": None, "m": -1, "t": ""}
        self.good([good, good], RULED)
        self.bad("filled", 0, [unfilled, good], RULED)
        self.bad("filled", 1, [good, unfilled, broken], RULED)
        self.bad("check", 2, [good, good, broken, unfilled], RULED)
        self.bad("filled", 1, [good, both], RULED)
        self.bad("check", 0, [{"n": 10, "m": 1, "t": ""}], RULED)

    def test_the_words_at_one_index(self):
        shape = Shape(
            [("n", "number", True), ("m", "number", False)], checks=[compare("m", ">", 0)], keys=[(("m",), None), (("n",), None)]
        )
        rows = [{"n": n, "m": m} for n in (None, 1) for m in (-1, 1, None)]
        for first, second in itertools.product(rows, rows):
            words = []
            if second["n"] is None:
                words.append("filled")
            if second["m"] == -1:
                words.append("check")
            if first["n"] == second["n"] == 1 or first["m"] == second["m"] == 1:
                words.append("key")
            if first["n"] is None:
                self.bad("filled", 0, [first, second], shape)
            elif first["m"] == -1:
                self.bad("check", 0, [first, second], shape)
            elif words:
                self.bad(words[0], 1, [first, second], shape)
            else:
                self.good([first, second], shape)

    def test_what_is_handed_in_stays_as_it_is(self):
        rows = [{"t": "a", "n": 1}, {"n": 2, "t": None}]
        check_table(PLAIN.with_key((("n", "t"), None)), rows)
        self.assertEqual(rows, [{"t": "a", "n": 1}, {"n": 2, "t": None}])


class KeyTest(unittest.TestCase, Tables):
    def test_one_name(self):
        shape = PLAIN.with_key((("n",), None))
        self.good([{"n": n, "t": "a"} for n in range(60)], shape)
        self.bad("key", 1, [{"n": 1, "t": "a"}, {"n": 1, "t": "b"}], shape)
        self.bad("key", 3, [{"n": n, "t": "a"} for n in (1, 2, 3, 2, 1)], shape)

    def test_the_least_index_that_clashes(self):
        shape = PLAIN.with_key((("n",), None)).with_key((("t",), None))
        self.bad("key", 1, [{"n": 1, "t": "a"}, {"n": 2, "t": "a"}, {"n": 1, "t": "b"}], shape)
        self.bad("key", 2, [{"n": 1, "t": "a"}, {"n": 2, "t": "b"}, {"n": 1, "t": "c"}], shape)

    def test_several_names(self):
        shape = PLAIN.with_key((("t", "n"), None))
        self.good([{"n": n, "t": t} for n in (1, 2, 3) for t in ("", "1", "2")], shape)
        self.bad("key", 2, [{"n": 1, "t": "a"}, {"n": 2, "t": "a"}, {"n": 1, "t": "a"}], shape)

    def test_empty_places_do_not_clash(self):
        one, two = PLAIN.with_key((("n",), None)), PLAIN.with_key((("n", "t"), always()))
        self.good([{"n": None, "t": "a"}, {"n": None, "t": "a"}], one)
        self.good([{"n": None, "t": "a"}] * 60, two)
        self.good([{"n": 1, "t": None}, {"n": 1, "t": None}, {"n": None, "t": None}, {"n": None, "t": None}], two)

    def test_a_test(self):
        shape = PLAIN.with_key((("n",), compare("t", "<", "m")))
        self.good([{"n": 1, "t": "a"}, {"n": 1, "t": "x"}, {"n": 1, "t": "x"}], shape)
        self.bad("key", 3, [{"n": 1, "t": "x"}, {"n": 1, "t": "a"}, {"n": 1, "t": "y"}, {"n": 1, "t": "b"}], shape)

    def test_a_test_that_is_unknown(self):
        shape = PLAIN.with_key((("n",), compare("t", "<", "m")))
        self.good([{"n": 1, "t": None}, {"n": 1, "t": None}, {"n": 1, "t": "a"}], shape)
        self.bad("key", 1, [{"n": 1, "t": None}] * 2, PLAIN.with_key((("n",), empty("t"))))

    def test_always_and_never(self):
        rows = [{"n": 1, "t": "a"}] * 2
        self.bad("key", 1, rows, PLAIN.with_key((("n",), always())))
        self.good(rows, PLAIN.with_key((("n",), never())))

    def test_a_row_of_no_account_does_not_hide_an_earlier_one(self):
        shape = PLAIN.with_key((("n",), ~empty("t")))
        self.bad("key", 2, [{"n": 1, "t": "a"}, {"n": 1, "t": None}, {"n": 1, "t": "b"}], shape)

    def test_equal_values_under_unlike_keys(self):
        shape = Shape([("n", "number", False), ("m", "number", False)], keys=[(("n",), None), (("m",), None)])
        self.good([{"n": 1, "m": 2}, {"n": 2, "m": 1}], shape)


if __name__ == "__main__":
    unittest.main()
