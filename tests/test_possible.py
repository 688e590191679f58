"""Points [26] to [28]: what steps make known, and the possible truths of a test after a way."""

import random
import unittest

from tests.cases import all_rows, possible_truths, random_questions, random_way
from tests.helper import Refusals, odd_things
from tworows.errors import BadTest
from tworows.logic import against, always, among, begins, compare, empty, never, sure
from tworows.shapes import Shape
from tworows.trees import possible

SHAPE = Shape([
    ("n", "number", False), ("m", "number", False), ("f", "number", True), ("g", "number", True), ("t", "text", False),
    ("u", "text", False),
])
BELOW, UNDER, EMPTY = ("below", "n", 5), ("under", "n", "m", 0), ("empty", "n")
# What empty(column) may be if the column is known to be empty, known to be not empty, or neither.
VOID, FULL, OPEN = (True,), (False,), (True, False)
ANY = (True, False, None)


class Ways(unittest.TestCase):
    def may(self, expected, test, *way):
        for steps in (list(way), tuple(way)):
            told = possible(SHAPE, test, steps)
            self.assertIs(type(told), tuple)
            self.assertEqual([truth for truth in told], list(expected))
            self.assertTrue(all(one is other for one, other in zip(told, expected)))
        self.assertEqual(possible_truths(SHAPE, test, way), tuple(expected))


class KnownTest(Ways):
    def test_no_steps(self):
        self.may(OPEN, empty("n"))
        self.may(FULL, empty("f"))

    def test_each_form_of_step(self):
        for atom, truth, expected in [
            (EMPTY, True, VOID), (EMPTY, False, FULL), (BELOW, True, FULL), (BELOW, False, FULL), (BELOW, None, VOID),
            (UNDER, True, FULL), (UNDER, False, FULL), (UNDER, None, OPEN),
        ]:
            if atom != EMPTY:
                self.may(expected, empty("n"), (atom, truth))
            self.may(expected, empty("n"), (("empty", "m"), False), (atom, truth), (("below", "t", "a"), None))

    def test_under_tells_of_both_columns(self):
        for truth in (True, False):
            self.may(FULL, empty("m"), (UNDER, truth))
        self.may(OPEN, empty("m"), (UNDER, None))
        self.may(OPEN, empty("m"), (UNDER, None), (EMPTY, False))
        self.may(FULL, empty("u"), (("under", "t", "u", 1), False))

    def test_other_columns_stay_open(self):
        for atom in (EMPTY, BELOW):
            for truth in (True, False):
                self.may(OPEN, empty("m"), (atom, truth))
        self.may(OPEN, empty("m"), (BELOW, None))

    def test_filled_columns(self):
        self.may((True, False), compare("f", "<", 5))
        self.may((True, False), against("f", "<", "g"))
        self.may(ANY, against("f", "<", "n"))
        self.may((True, False), against("f", "<", "n"), (EMPTY, False))


class AtomTest(Ways):
    def test_below(self):
        test = compare("n", "<", 7)
        self.may(ANY, test)
        for truth in (True, False):
            self.may((True, False), test, (BELOW, truth))
        self.may((None,), test, (BELOW, None))
        self.may((None,), test, (EMPTY, True))
        self.may((True, False), test, (EMPTY, False))
        self.may(ANY, test, (UNDER, None))
        self.may((True, False), test, (UNDER, True))

    def test_the_step_of_the_atom_itself(self):
        for truth in ANY:
            self.may((truth,), compare("n", "<", 5), (BELOW, truth))
            self.may((truth,), compare("n", "<=", 4), (BELOW, truth))
            self.may((truth,), against("n", "<", "m"), (UNDER, truth))
        for truth in (True, False):
            self.may((truth,), empty("n"), (EMPTY, truth))

    def test_another_value_or_another_k_is_another_atom(self):
        self.may((True, False), compare("n", "<", 6), (BELOW, True))
        self.may((True, False), compare("n", "<", 4), (BELOW, False))
        self.may((True, False), against("n", "<=", "m"), (UNDER, True))
        self.may((True, False), against("m", "<", "n"), (UNDER, False))
        self.may(ANY, against("n", "<", "m", more=1), (UNDER, None))

    def test_under(self):
        test = against("n", "<", "m", more=3)
        self.may(ANY, test)
        self.may(ANY, test, (EMPTY, False))
        self.may((None,), test, (EMPTY, True))
        self.may((None,), test, (EMPTY, False), (("empty", "m"), True))
        self.may((None,), test, (("empty", "m"), True), (EMPTY, False))
        self.may((True, False), test, (EMPTY, False), (("below", "m", 0), True))
        self.may(ANY, test, (UNDER, None))
        self.may((True, False), test, (UNDER, False))

    def test_the_first_step_decides(self):
        for one in ANY:
            for other in ANY:
                self.may((one,), compare("n", "<", 5), (BELOW, one), (BELOW, other))
                self.may((one,), compare("n", "<", 5), (EMPTY, True), (BELOW, one), (("empty", "m"), True), (BELOW, other))
                self.may((one,), against("n", "<", "m"), (UNDER, one), (UNDER, other))
        for one in (True, False):
            self.may((one,), empty("n"), (EMPTY, one), (EMPTY, not one))

    def test_ways_that_no_row_has(self):
        both = [(BELOW, True), (("below", "n", 9), None)]
        for way in (both, both[::-1]):
            self.may(VOID, empty("n"), *way)
            self.may((None,), compare("n", "<", 0), *way)
            self.may((True,), compare("n", "<", 5), *way)
        self.may((False,), empty("n"), (EMPTY, False), (BELOW, None))
        self.may((True,), empty("n"), (EMPTY, True), (BELOW, True))
        self.may((None,), compare("f", "<", 0), (("empty", "f"), True))
        self.may(VOID, empty("f"), (("below", "f", 3), None))
        self.may((True, False), against("n", "<=", "m"), (UNDER, None), (EMPTY, False), (("empty", "m"), False))
        self.may((None,), against("n", "<", "m"), (UNDER, None), (EMPTY, False), (("empty", "m"), False))

    def test_a_column_that_is_empty_and_not_empty(self):
        self.may((None,), against("n", "<", "m"), (EMPTY, True), (("below", "n", 1), True), (("below", "m", 1), True))


class FormulaTest(Ways):
    def test_always_and_never(self):
        self.may((True,), always())
        self.may((False,), never(), (EMPTY, True))

    def test_each_occurrence_for_itself(self):
        one = compare("n", "<", 5)
        self.may(ANY, one & ~one)
        self.may(ANY, one | ~one)
        self.may((True, False), one & ~one, (EMPTY, False))
        self.may((True, False), sure(one) | ~sure(one))
        self.may((False,), one & ~one, (BELOW, True))
        self.may((None,), one & ~one, (BELOW, None))

    def test_an_equality_is_two_atoms(self):
        test = compare("n", "==", 4)
        self.may(ANY, test)
        self.may((True, False), test, (BELOW, True))
        self.may((False,), test, (BELOW, False))
        self.may((False,), test, (("below", "n", 4), True))
        self.may((True,), test, (("below", "n", 4), False), (BELOW, True))
        self.may((True,), compare("n", "!=", 4), (("below", "n", 4), True))
        self.may((True, False), among("n", [4, 9]), (BELOW, False))
        self.may((False,), begins("t", "a"), (("below", "t", "a"), True))

    def test_and_or_not_sure(self):
        one, other = compare("n", "<", 5), compare("m", "<", 5)
        for test, expected in [
            (one & other, (True, False)), (one | other, (True,)), (~one, (False,)), (sure(one), (True,)),
            (sure(other), (True, False)), (~other, ANY), (sure(~other), (True, False)), (sure(other & ~one), (False,)),
        ]:
            way = [(BELOW, True)] if test.kind() != "and" else [(BELOW, True), (("empty", "m"), False)]
            self.may(expected, test, *way)
        self.may((False, None), one & other, (BELOW, None))
        self.may((True, None), one | other, (BELOW, None))
        self.may((False,), sure(one & other), (BELOW, None))

    def test_against_random_ways(self):
        chance = random.Random(28)
        for shape, wants in random_questions(28, 120):
            tests = [test for test, _ in wants]
            for test in tests:
                way = random_way(chance, shape, tests, None, chance.randint(0, 6))
                self.assertEqual(possible(shape, test, way), possible_truths(shape, test, way))

    def test_the_truth_at_a_row_is_possible(self):
        chance = random.Random(26)
        for shape, wants in random_questions(26, 60, columns=2):
            rows = list(all_rows(shape))
            tests = [test for test, _ in wants]
            for row in chance.sample(rows, min(20, len(rows))):
                for test in tests:
                    way = random_way(chance, shape, tests, row, chance.randint(0, 6))
                    self.assertIn(test.truth(row), possible(shape, test, way))


class WrongTest(unittest.TestCase, Refusals):
    def test_what_is_no_test(self):
        for thing in odd_things() + ["n < 5", 5]:
            self.refused(BadTest, {"why": "part"}, possible, SHAPE, thing, [])

    def test_a_test_that_does_not_fit(self):
        for test in (empty("z"), compare("n", "<", "5"), against("t", "<", "n"), begins("n", "")):
            self.refused(BadTest, {"why": "column"}, possible, SHAPE, test, [])

    def test_the_way_stays_as_it_is(self):
        way = [(BELOW, True), (BELOW, False), (EMPTY, False)]
        possible(SHAPE, empty("n"), way)
        self.assertEqual(way, [(BELOW, True), (BELOW, False), (EMPTY, False)])


if __name__ == "__main__":
    unittest.main()
