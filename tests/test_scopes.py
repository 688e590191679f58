"""Point [33]: decisions about all rows of a shape."""

import itertools
import unittest

from tests.cases import all_rows, random_questions
from tests.helper import Refusals, joined, odd_things
from tworows.errors import BadRow, BadTest, TooMany
from tworows.logic import against, always, among, begins, compare, conjuncts, empty, never, sure
from tworows.scopes import alike, fixed, left_over, never_comes, same_truth, within
from tworows.shapes import Shape, fits_row
from tworows.trees import shows_none

SHAPE = Shape([("n", "number", False), ("m", "number", False), ("t", "text", False), ("f", "number", True)])
LOW, LOWER, HIGH = compare("n", "<", 5), compare("n", "<", 3), compare("n", ">=", 5)
MISFITS = [empty("z"), compare("n", "<", "5"), begins("n", ""), against("n", "<", "t")]


def belows(column, many):
    """A test with so many basic atoms."""
    return joined([compare(column, "<", at) for at in range(many)])


def wants_of(*pairs):
    """The wants of tests and truths."""
    return [(test, truths) for test, truths in zip(pairs[::2], pairs[1::2])]


class Answers(unittest.TestCase, Refusals):
    def always(self, shape, answer, *questions):
        """The answer is that there is no row, with one tree for each wants."""
        self.assertIs(type(answer), tuple)
        self.assertEqual(answer[0], "always")
        self.assertEqual(len(answer), 1 + len(questions))
        for tree, wants in zip(answer[1:], questions):
            self.assertIs(shows_none(shape, wants, tree), True)

    def row(self, shape, answer, right):
        """The answer is a row of the shape of which something is true."""
        self.assertIs(type(answer), tuple)
        self.assertEqual((answer[0], len(answer)), ("row", 2))
        self.assertIs(fits_row(shape, answer[1]), True)
        self.assertTrue(right(answer[1]), answer)

    def refuses_tests(self, call, *rest):
        """The tests are looked at from left to right."""
        for thing in odd_things() + ["n < 5", (LOW,)]:
            self.refused(BadTest, {"why": "part"}, call, SHAPE, thing, *rest)
        for test in MISFITS:
            self.refused(BadTest, {"why": "column"}, call, SHAPE, test, *rest)


class WithinTest(Answers):
    def test_always(self):
        for one, other in [
            (LOWER, LOW), (LOW, LOW), (never(), LOW), (LOW, always()), (LOW & empty("m"), LOW), (LOW, ~empty("n")), (LOW, LOW | HIGH),
            (among("n", [1, 2]), LOWER), (begins("t", "ab"), begins("t", "a")), (sure(LOW), LOW), (~LOW, ~LOWER),
        ]:
            self.always(SHAPE, within(SHAPE, one, other), wants_of(one, (True,), other, (False, None)))

    def test_row(self):
        for one, other in [(LOW, LOWER), (always(), LOW), (LOW, never()), (LOW, compare("m", "<", 5)), (~LOW, LOW), (empty("n"), LOW)]:
            self.row(SHAPE, within(SHAPE, one, other), lambda row: one.truth(row) is True and other.truth(row) is not True)

    def test_the_rules_of_the_shape(self):
        shape = SHAPE.with_check(LOWER).with_filled("n")
        self.always(shape, within(shape, always(), LOW), wants_of(always(), (True,), LOW, (False, None)))
        keyed = SHAPE.with_key((("n",), None))
        self.row(keyed, within(keyed, always(), LOW), lambda row: LOW.truth(row) is not True)

    def test_wrong_tests(self):
        self.refuses_tests(within, LOW)
        self.refuses_tests(within, None)
        self.refuses_tests(lambda shape, thing: within(shape, LOW, thing))


class NeverComesTest(Answers):
    def test_always_and_row(self):
        for test in (never(), LOW & HIGH, LOWER & ~LOW, LOW & empty("n"), sure(empty("f")), compare("t", "<", "")):
            self.always(SHAPE, never_comes(SHAPE, test), wants_of(test, (True,)))
        for test in (always(), LOW, ~LOW, empty("n"), against("n", "<", "m"), LOW | never()):
            self.row(SHAPE, never_comes(SHAPE, test), lambda row: test.truth(row) is True)

    def test_wrong_tests(self):
        self.refuses_tests(never_comes)


class AlikeTest(Answers):
    def test_always(self):
        for one, other in [
            (LOW, compare("n", "<=", 4)), (LOW, ~HIGH), (never(), LOW & HIGH), (sure(LOW), LOW), (LOW | LOWER, LOW),
            (among("n", [1, 2, 1]), compare("n", "==", 2) | compare("n", "==", 1)), (begins("t", ""), ~empty("t")),
        ]:
            self.always(
                SHAPE, alike(SHAPE, one, other), wants_of(one, (True,), other, (False, None)), wants_of(other, (True,), one, (False, None))
            )

    def test_row(self):
        for one, other in [(LOW, LOWER), (LOWER, LOW), (LOW, HIGH), (always(), LOW), (LOW, compare("m", "<", 5))]:
            self.row(SHAPE, alike(SHAPE, one, other), lambda row: (one.truth(row) is True) != (other.truth(row) is True))

    def test_wrong_tests(self):
        self.refuses_tests(alike, LOW)
        self.refuses_tests(alike, None)
        self.refuses_tests(lambda shape, thing: alike(shape, LOW, thing))


class SameTruthTest(Answers):
    def test_always(self):
        for one, other in [
            (LOW, ~HIGH), (LOW, LOW), (~~LOW, LOW), (LOW & LOWER, LOWER), (LOW | LOWER, LOW), (sure(sure(LOW)), sure(LOW)),
            (~(LOW & empty("m")), ~LOW | ~empty("m")), (always(), ~never()), (sure(empty("n")), empty("n")),
        ]:
            self.always(
                SHAPE, same_truth(SHAPE, one, other), wants_of(one, (True,), other, (False, None)),
                wants_of(one, (False,), other, (True, None)), wants_of(one, (None,), other, (True, False)),
            )

    def test_row(self):
        for one, other in [
            (LOW, LOWER), (LOWER, LOW), (sure(LOW), LOW), (LOW, sure(LOW)), (LOW, never()), (never(), LOW), (LOW | ~LOW, always()),
            (always(), LOW | ~LOW), (LOW & ~LOW, never()),
        ]:
            self.row(SHAPE, same_truth(SHAPE, one, other), lambda row: one.truth(row) is not other.truth(row))

    def test_wrong_tests(self):
        self.refuses_tests(same_truth, LOW)
        self.refuses_tests(same_truth, None)
        self.refuses_tests(lambda shape, thing: same_truth(shape, LOW, thing))


class FixedTest(Answers):
    def value(self, test, column, value, shape=SHAPE):
        answer = fixed(shape, test, column)
        self.assertEqual(answer, ("value", value))
        self.assertIs(type(answer[1]), type(value))

    def rows(self, test, column, shape=SHAPE):
        word, rows = fixed(shape, test, column)
        self.assertEqual((word, type(rows), len(rows)), ("rows", list, 2))
        for row in rows:
            self.assertIs(fits_row(shape, row), True)
            self.assertIs(test.truth(row), True)
        self.assertNotEqual(rows[0][column], rows[1][column])
        return rows

    def test_never(self):
        for column in SHAPE.names():
            self.assertEqual(fixed(SHAPE, LOW & HIGH, column), ("never",))

    def test_one_value(self):
        self.value(compare("n", "==", 7), "n", 7)
        self.value(compare("n", ">", 3) & compare("n", "<", 5), "n", 4)
        self.value(compare("n", "==", -10 ** 33) & empty("m"), "n", -10 ** 33)
        self.value(compare("t", "==", ""), "t", "")
        self.value(compare("t", "<=", ""), "t", "")
        self.value(among("t", ["a b", "a b"]), "t", "a b")
        self.value(compare("m", "==", 2) & against("n", "==", "m", more=5), "n", 7)

    def test_an_empty_place(self):
        self.value(empty("n"), "n", None)
        self.value(empty("n") | never(), "n", None)
        shape = SHAPE.with_check(empty("t"))
        self.value(always(), "t", None, shape)

    def test_two_rows(self):
        self.rows(always(), "n")
        self.rows(LOW, "n")
        self.rows(compare("n", "==", 7), "m")
        self.rows(compare("n", "==", 7), "t")
        self.rows(among("n", [7, 8]), "n")
        self.rows(~empty("t"), "t")
        rows = self.rows(empty("n") | compare("n", "==", 7), "n")
        self.assertEqual({row["n"] for row in rows}, {None, 7})

    def test_the_rows_may_be_changed(self):
        rows = fixed(SHAPE, LOW, "n")[1]
        rows[0].clear()
        rows.append(1)
        self.rows(LOW, "n")

    def test_wrong_arguments(self):
        self.refuses_tests(fixed, "n")
        self.refuses_tests(fixed, "z")
        for thing in odd_things() + ["z", "", 5, LOW]:
            with self.assertRaises(BadRow) as caught:
                fixed(SHAPE, LOW, thing)
            self.assertIs(caught.exception.column, thing)
            self.refused(BadTest, {"why": "column"}, fixed, SHAPE, MISFITS[0], thing)


class LeftOverTest(Answers):
    def test_one_conjunct(self):
        self.assertEqual(left_over(SHAPE, LOW, always()), [[0]])
        self.assertEqual(left_over(SHAPE, LOW, LOWER), [[]])
        self.assertEqual(left_over(SHAPE, always(), LOW), [[]])
        self.assertEqual(left_over(SHAPE, LOW, never()), [[]])
        self.assertEqual(left_over(SHAPE, never(), LOW), [[0]])

    def test_some_conjuncts_are_given(self):
        test = LOW & compare("m", "<", 1) & ~empty("t")
        self.assertEqual(left_over(SHAPE, test, always()), [[0, 1, 2]])
        self.assertEqual(left_over(SHAPE, test, LOWER), [[1, 2]])
        self.assertEqual(left_over(SHAPE, test, LOWER & ~empty("t")), [[1]])
        self.assertEqual(left_over(SHAPE, test, test), [[]])

    def test_several_least_sets(self):
        same = compare("n", "<=", 4)
        self.assertEqual(left_over(SHAPE, LOW & same, always()), [[0], [1]])
        self.assertEqual(left_over(SHAPE, (LOW & empty("m")) & (same & LOWER), always()), [[1, 3]])
        self.assertEqual(left_over(SHAPE, (LOW & empty("m")) & same, always()), [[0, 1], [1, 2]])
        # 0 says what 1 and 2 say together.
        one, other = compare("n", ">", 3), compare("n", "<", 5)
        self.assertEqual(left_over(SHAPE, compare("n", "==", 4) & one & other, always()), [[0], [1, 2]])
        self.assertEqual(left_over(SHAPE, one & compare("n", "==", 4) & other, always()), [[1], [0, 2]])
        self.assertEqual(left_over(SHAPE, one & other & compare("n", "==", 4), always()), [[2], [0, 1]])

    def test_the_order_of_the_sets(self):
        # All three are equal: by two equalities, by a round, or by one equality and what is left of a round.
        round_trip = against("n", "<=", "m") & against("m", "<=", "f") & against("f", "<=", "n")
        test = round_trip & against("n", "==", "m") & against("m", "==", "f")
        self.assertEqual(left_over(SHAPE, test, always()), [[3, 4], [0, 1, 2], [0, 2, 4], [1, 2, 3]])

    def test_against_every_set(self):
        tests = [
            LOW & LOWER & HIGH, LOW & ~empty("n") & empty("m") & empty("m"), against("n", "<", "m") & against("m", "<", "f") & against("n", "<", "f"),
            (LOW | empty("n")) & (LOW | empty("m")) & LOW & ~empty("n"), sure(LOW) & LOW & ~HIGH & (LOW | HIGH) & empty("t") & LOWER,
        ]
        for test, given in itertools.product(tests, [always(), LOW, ~empty("n"), against("m", "<", "f"), LOWER & empty("m")]):
            parts = conjuncts(test)
            enough = []
            for many in range(len(parts) + 1):
                for chosen in itertools.combinations(range(len(parts)), many):
                    wants = [(given, (True,))] + [(parts[at], (True,)) for at in chosen]
                    asked = joined_all([want[0] for want in wants])
                    if within(SHAPE, asked, test)[0] == "always":
                        enough.append(list(chosen))
            least = [one for one in enough if not any(set(other) < set(one) for other in enough)]
            self.assertEqual(left_over(SHAPE, test, given), least)

    def test_6_and_7_conjuncts(self):
        parts = [compare("n", "!=", at) for at in range(7)]
        six = joined_all(parts[:6])
        self.assertEqual(left_over(SHAPE, six, always()), [[0, 1, 2, 3, 4, 5]])
        self.assertEqual(left_over(SHAPE, six, compare("n", ">", 2)), [[3, 4, 5]])
        for test in (six & parts[6], parts[6] & six, joined_all(parts[:3]) & joined_all(parts[3:])):
            self.refused(TooMany, {"limit": 6}, left_over, SHAPE, test, always())

    def test_other_words_have_no_conjuncts(self):
        parts = [compare("n", "!=", at) for at in range(7)]
        self.assertEqual(left_over(SHAPE, ~joined_all(parts), always()), [[0]])
        self.assertEqual(left_over(SHAPE, sure(joined_all(parts)), always()), [[0]])
        self.assertEqual(left_over(SHAPE, joined(parts), ~empty("n")), [[]])

    def test_the_lists_may_be_changed(self):
        found = left_over(SHAPE, LOW & LOWER, always())
        found[0].append(7)
        found.clear()
        self.assertEqual(left_over(SHAPE, LOW & LOWER, always()), [[1]])

    def test_wrong_arguments(self):
        seven = joined_all([compare("n", "!=", at) for at in range(7)])
        self.refuses_tests(left_over, LOW)
        self.refuses_tests(left_over, None)
        for test in (LOW, seven):
            self.refuses_tests(lambda shape, thing: left_over(shape, test, thing))


class TooManyTest(Answers):
    def test_60_basic_atoms(self):
        one, other = belows("n", 20), belows("m", 20)
        checked = SHAPE.with_check(belows("f", 20))
        for call in (within, alike, same_truth, left_over):
            self.assertIn(call(checked, one, other)[0], ("always", "row", [0]))
            self.refused(TooMany, {"limit": 60}, call, checked.with_check(empty("n")), one, other)
        self.assertEqual(never_comes(checked.with_check(other), one)[0], "row")
        self.refused(TooMany, {"limit": 60}, never_comes, checked.with_check(other).with_check(empty("n")), one)
        self.refused(TooMany, {"limit": 60}, fixed, checked.with_check(other).with_check(empty("n")), one, "t")

    def test_the_errors_of_arguments_are_ahead(self):
        shape = SHAPE.with_check(belows("f", 20)).with_check(belows("n", 20)).with_check(belows("m", 22))
        for call in (within, alike, same_truth, left_over):
            self.refused(TooMany, {"limit": 60}, call, shape, LOW, LOW)
            self.refused(BadTest, {"why": "part"}, call, shape, LOW, None)
            self.refused(BadTest, {"why": "column"}, call, shape, empty("z"), LOW)
        self.refused(BadRow, {"column": "z"}, fixed, shape, LOW, "z")
        seven = joined_all([compare("n", "!=", at) for at in range(7)])
        self.refused(TooMany, {"limit": 6}, left_over, shape, seven, LOW)


class RandomTest(unittest.TestCase):
    def test_small_questions_against_all_rows(self):
        answers = []
        for shape, wants in random_questions(330, 60, columns=2, most=4):
            rows = list(all_rows(shape))
            tests = [test for test, _ in wants]
            for one, other in zip(tests, tests[1:]):
                truths = [(one.truth(row), other.truth(row)) for row in rows]
                expected = [
                    all(right is True for left, right in truths if left is True), all(left is not True for left, _ in truths),
                    all((left is True) == (right is True) for left, right in truths), all(left is right for left, right in truths),
                ]
                told = [within(shape, one, other), never_comes(shape, one), alike(shape, one, other), same_truth(shape, one, other)]
                self.assertEqual([answer[0] == "always" for answer in told], expected)
                answers += expected
                for column in shape.names():
                    held = {row[column] for row in rows if one.truth(row) is True}
                    word = "never" if len(held) == 0 else "value" if len(held) == 1 else "rows"
                    self.assertEqual(fixed(shape, one, column)[0], word)
        self.assertGreater(min(answers.count(True), answers.count(False)), 30)


def joined_all(tests):
    """Tests joined by and, from left to right."""
    found = tests[0]
    for test in tests[1:]:
        found = found & test
    return found


if __name__ == "__main__":
    unittest.main()
