"""Point [25]: what wants are, the order of their errors, and the count of basic atoms."""

import itertools
import unittest

from tests.helper import Refusals, joined, odd_things
from tworows.errors import BadWant, TooMany
from tworows.logic import against, always, among, begins, compare, empty, never, sure
from tworows.shapes import Shape
from tworows.wants import count_atoms, need_wants

SHAPE = Shape([("n", "number", False), ("m", "number", False), ("t", "text", False)])
FIT = compare("n", "<", 5)


def belows(start, many):
    """Wants with so many different basic atoms."""
    tests = [compare("n", "<", start + at) for at in range(many)]
    return [(joined(tests[at : at + 20]), (True,)) for at in range(0, many, 20)]


class NeedTest(unittest.TestCase, Refusals):
    def bad(self, at, wants, shape=SHAPE):
        self.refused(BadWant, {"at": at}, need_wants, shape, wants)

    def too_many(self, wants, shape=SHAPE):
        self.refused(TooMany, {"limit": 60}, need_wants, shape, wants)

    def good(self, wants, shape=SHAPE):
        self.assertIsNone(need_wants(shape, wants))
        self.assertIsNone(need_wants(shape, tuple(wants)))

    def test_no_sequence(self):
        for thing in odd_things() + [1, "", {}, FIT, SHAPE]:
            if not isinstance(thing, (list, tuple)):
                self.bad(-1, thing)

    def test_at_most_60(self):
        self.good([])
        self.good([(FIT, (True,))] * 60)
        self.bad(-1, [(FIT, (True,))] * 61)
        self.bad(-1, [None] * 61)

    def test_lists_and_tuples(self):
        for want in ((FIT, (True,)), [FIT, [True]], (FIT, [None, False]), [FIT, (False, None, True)]):
            self.good([want])

    def test_all_truths(self):
        for many in (1, 2, 3):
            for truths in itertools.permutations((True, False, None), many):
                self.good([(FIT, truths), (FIT, list(truths))])

    def test_wrong_truths(self):
        wrong = [
            (), [], (True, True), (None, None), (False, True, False), (True, False, None, True), (1,), (0,), (True, 0),
            (1, False), (False, 0), ("True",), True, None, False, "", {True: 1}, {True}, ((True,),), ([],), (FIT,),
        ]
        for truths in wrong:
            self.bad(0, [(FIT, truths)])
            self.bad(1, [(FIT, (True,)), [FIT, truths], None])

    def test_odd_truths(self):
        for thing in odd_things():
            self.bad(0, [(FIT, thing)])
            if thing is not None and not isinstance(thing, bool):
                self.bad(0, [(FIT, (thing,))])
                self.bad(0, [(FIT, (True, thing))])

    def test_wrong_wants(self):
        wrong = [
            (), (FIT,), (FIT, (True,), (True,)), FIT, "ab", {}, ((True,), FIT), (str(FIT), (True,)), ((FIT,), (True,)),
            (compare("z", "<", 1), (True,)), (compare("n", "<", "1"), (True,)), (begins("n", "1"), (True,)),
            (against("t", "<", "n"), (True,)), (FIT & empty("z"), (True,)), (SHAPE, (True,)),
        ]
        for want in wrong + odd_things():
            self.bad(0, [want])
            self.bad(2, ((FIT, (True,)), (always(), [None]), want, want))
        for thing in odd_things():
            self.bad(0, [(thing, (True,))])

    def test_the_last_of_60(self):
        self.bad(59, [(FIT, (True,))] * 59 + [None])

    def test_60_and_61_basic_atoms(self):
        self.good(belows(0, 60))
        self.too_many(belows(0, 61))
        self.too_many(tuple(belows(0, 61)))

    def test_the_checks_count(self):
        checked = SHAPE.with_check(compare("m", "<", 1)).with_check(compare("n", "<", 7))
        self.good(belows(0, 59), checked)
        self.too_many(belows(0, 60), checked)
        self.good(belows(-100, 58), checked)
        self.too_many(belows(-100, 59), checked)

    def test_the_checks_alone(self):
        shape = SHAPE
        for want in belows(0, 61):
            shape = shape.with_check(want[0])
        self.too_many([], shape)
        self.too_many([(FIT, (True,))], shape)
        self.bad(0, [None], shape)

    def test_keys_do_not_count(self):
        self.good(belows(0, 60), SHAPE.with_key((("n",), compare("n", "<", 1000))))

    def test_no_want_is_ahead_of_too_many(self):
        self.bad(4, belows(0, 61) + [None])
        self.bad(0, [None] + belows(0, 61))

    def test_what_is_handed_in_stays_as_it_is(self):
        wants = [[FIT, [True, None]]]
        need_wants(SHAPE, wants)
        count_atoms(SHAPE, wants)
        self.assertEqual(wants, [[FIT, [True, None]]])


class CountTest(unittest.TestCase):
    def count(self, *tests, shape=SHAPE):
        wants = [(test, (True,)) for test in tests]
        self.assertEqual(count_atoms(shape, tuple(wants)), count_atoms(shape, wants))
        return count_atoms(shape, wants)

    def test_different_atoms_alone(self):
        self.assertEqual(self.count(), 0)
        self.assertEqual(self.count(always(), never()), 0)
        self.assertEqual(self.count(FIT), 1)
        self.assertEqual(self.count(FIT, FIT, ~sure(FIT), compare("n", "<=", 4)), 1)
        self.assertEqual(self.count(FIT, compare("n", "==", 5)), 2)
        self.assertEqual(self.count(among("n", [1, 2, 3, 2]), among("m", [1, 2])), 7)
        self.assertEqual(self.count(against("n", "<", "m"), against("m", "<", "n"), against("n", "==", "m")), 3)
        self.assertEqual(self.count(empty("n"), empty("t"), begins("t", "a"), begins("t", "~")), 5)

    def test_the_checks_count(self):
        shape = SHAPE.with_check(FIT & empty("n")).with_check(compare("m", "<", 5)).with_key((("t",), empty("t")))
        self.assertEqual(self.count(shape=shape), 3)
        self.assertEqual(self.count(FIT, shape=shape), 3)
        self.assertEqual(self.count(empty("t"), shape=shape), 4)

    def test_beyond_60(self):
        self.assertEqual(count_atoms(SHAPE, belows(0, 60)), 60)
        self.assertEqual(count_atoms(SHAPE, belows(0, 100)), 100)


if __name__ == "__main__":
    unittest.main()
