"""Point [21]: which tests fit the columns of a shape, and need_test."""

import unittest

from tests.helper import Refusals, odd_things
from tworows.errors import BadTest
from tworows.logic import against, always, among, begins, compare, empty, never, sure
from tworows.shapes import Shape, fits, need_test

SHAPE = Shape([("n", "number", True), ("m", "number", False), ("t", "text", False), ("u", "text", True)])
GOOD = [
    compare("n", "<", 5), compare("m", "==", -10 ** 40), compare("t", ">=", ""), compare("u", "!=", "5"),
    against("n", "<", "m"), against("m", "==", "n", more=3), against("n", ">", "m", more=-10 ** 31),
    against("t", "<=", "u"), against("u", "!=", "t", more=0), among("n", [1, 2, 1]), among("t", ["", "a"]),
    begins("t", ""), begins("u", "ab"), empty("n"), empty("m"), empty("t"), always(), never(),
]
BAD = [
    compare("n", "<", "5"), compare("t", "<", 5), compare("z", "<", 5), compare("z", "<", ""), against("n", "<", "t"),
    against("t", "<", "n"), against("t", "<", "u", more=1), against("t", "<", "u", more=-1), against("n", "<", "z"),
    against("z", "<", "n"), against("y", "<", "z"), among("n", [1, "2"]), among("n", ["1"]), among("t", ["a", "b", 3]),
    among("t", [1]), among("z", [1]), begins("n", ""), begins("m", "1"), begins("z", "a"), empty("z"),
]


class FitsTest(unittest.TestCase, Refusals):
    def good(self, test):
        self.assertIs(fits(SHAPE, test), True, str(test))
        self.assertIsNone(need_test(SHAPE, test))

    def bad(self, test):
        self.assertIs(fits(SHAPE, test), False, str(test))
        self.refused(BadTest, {"why": "column"}, need_test, SHAPE, test)

    def test_each_kind_of_test(self):
        for test in GOOD:
            self.good(test)

    def test_each_kind_of_misfit(self):
        for test in BAD:
            self.bad(test)

    def test_combined_tests(self):
        for one in GOOD[:6]:
            for test in (one & GOOD[7], one | always(), ~one, sure(one), ~(sure(one) & ~GOOD[10])):
                self.good(test)

    def test_a_misfit_deep_in_a_combined_test(self):
        for one in BAD:
            for test in (one & GOOD[0], GOOD[0] & one, one | never(), always() | one, ~one, sure(one), GOOD[1] & ~sure(~one)):
                self.bad(test)

    def test_what_is_no_test(self):
        for thing in odd_things() + ["n < 5", 1, "", {}, (GOOD[0],), [GOOD[0]], SHAPE, compare]:
            self.refused(BadTest, {"why": "part"}, need_test, SHAPE, thing)

    def test_flags_of_columns_checks_and_keys_do_not_matter(self):
        bare = Shape([("n", "number", False)])
        ruled = Shape([("n", "number", True)], checks=[never()], keys=[(("n",), never())])
        for shape in (bare, ruled):
            self.assertIs(fits(shape, compare("n", "<", 1)), True)
            self.assertIs(fits(shape, empty("n")), True)
            self.assertIs(fits(shape, empty("m")), False)


if __name__ == "__main__":
    unittest.main()
