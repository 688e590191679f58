"""Points [12] and [14]: combining tests, and what a test tells of itself."""

import unittest

from tests.helper import Refusals, odd_things, some_test
from tworows.errors import BadTest
from tworows.logic import Test, against, always, among, begins, compare, conjuncts, empty, never, sure


def flat(count, first=0):
    """A test of so many atoms, a0 | a1 | .., with as few levels as possible."""
    if count == 1:
        return compare(f"a{first}", "<", first)
    half = count // 2
    return flat(half, first) | flat(count - half, first + half)


def deep(levels):
    """A test of one atom with so many levels."""
    test = compare("d", "<", 1)
    for _ in range(levels):
        test = ~test
    return test


class CombiningTest(unittest.TestCase, Refusals):
    def bad(self, why, call, *given):
        self.refused(BadTest, {"why": why}, call, *given)

    def test_the_kinds_and_parts(self):
        one, other = compare("a", "<", 1), empty("b")
        for test, kind, parts in [
            (one & other, "and", [one, other]),
            (other & one, "and", [other, one]),
            (one | other, "or", [one, other]),
            (other | one, "or", [other, one]),
            (~one, "not", [one]),
            (sure(one), "sure", [one]),
        ]:
            self.assertIs(type(test), Test)
            self.assertEqual(test.kind(), kind)
            self.assertEqual(test.parts(), parts)

    def test_nothing_is_flattened_or_simplified(self):
        a, b, c = compare("a", "<", 1), compare("b", "<", 1), compare("c", "<", 1)
        self.assertEqual(((a & b) & c).parts(), [a & b, c])
        self.assertEqual((a & (b & c)).parts(), [a, b & c])
        self.assertEqual((a | (b | c)).parts(), [a, b | c])
        self.assertEqual((~~a).parts(), [~a])
        self.assertEqual(sure(sure(a)).parts(), [sure(a)])
        self.assertEqual((a & a).parts(), [a, a])
        self.assertEqual((a & always()).parts(), [a, always()])
        self.assertEqual((never() | a).parts(), [never(), a])
        self.assertEqual(str(~compare("a", "<", 1)), "not a < 1")

    def test_the_operands_stay(self):
        one, other = compare("a", "<", 1) | empty("b"), always()
        made = [one & other, one | other, ~one, sure(one)]
        self.assertEqual(len(made), 4)
        self.assertEqual(str(one), "a < 1 or b is empty")
        self.assertEqual(one.levels(), 1)
        self.assertEqual(str(other), "always")

    def test_a_part_that_is_no_test(self):
        for thing in odd_things() + ["", "a", 1, 0, {}, Test, [some_test()], compare]:
            self.bad("part", lambda: some_test() & thing)
            self.bad("part", lambda: some_test() | thing)
            self.bad("part", sure, thing)

    def test_24_atoms_are_not_too_many(self):
        for test in (flat(12) & flat(12), flat(23) | flat(1), flat(1) & flat(23), flat(24)):
            self.assertEqual(len(test.atoms()), 24)
            self.assertEqual(len((~test).atoms()), 24)
            self.assertEqual(len(sure(test).atoms()), 24)

    def test_25_atoms_are_too_many(self):
        for one, other in [(24, 1), (1, 24), (13, 12), (12, 13), (24, 24)]:
            self.bad("large", lambda: flat(one) & flat(other))
            self.bad("large", lambda: flat(one) | flat(other))

    def test_an_atom_counts_as_often_as_it_occurs(self):
        one = compare("a", "<", 1)
        three = one | one | one
        twelve = three & three & three & three
        self.assertEqual(twelve.atoms(), [one] * 12)
        self.assertEqual((twelve & twelve).atoms(), [one] * 24)
        self.bad("large", lambda: (twelve & twelve) & one)

    def test_always_never_and_empty_count(self):
        for one in (always(), never(), empty("a"), begins("a", ""), among("a", [1, 2]), against("a", "<", "b")):
            eight = ((one & one) & (one & one)) & ((one & one) & (one & one))
            most = (eight & eight) & eight
            self.assertEqual(len(most.atoms()), 24)
            self.bad("large", lambda: most & one)
            self.bad("large", lambda: one | most)
        # The values of an among are no atoms.
        test = among("a", [1, 2, 3, 4, 5, 6, 7, 8])
        self.assertEqual(len((test & test & test & test).atoms()), 4)

    def test_12_levels_are_not_too_many(self):
        one = compare("a", "<", 1)
        for test in (~deep(11), sure(deep(11)), deep(11) & one, one & deep(11), deep(11) | one, one | deep(11)):
            self.assertEqual(test.levels(), 12)

    def test_13_levels_are_too_many(self):
        one = compare("a", "<", 1)
        self.bad("deep", lambda: ~deep(12))
        self.bad("deep", sure, deep(12))
        self.bad("deep", lambda: deep(12) & one)
        self.bad("deep", lambda: one & deep(12))
        self.bad("deep", lambda: deep(12) | one)
        self.bad("deep", lambda: one | deep(12))
        self.bad("deep", lambda: ~(deep(11) & deep(11)))

    def test_large_is_looked_at_ahead_of_deep(self):
        self.bad("large", lambda: deep(12) & flat(24))
        self.bad("large", lambda: flat(24) | deep(12))
        self.bad("deep", lambda: deep(12) & flat(23))
        self.bad("large", lambda: deep(11) & flat(24))

    def test_part_is_looked_at_first_of_all(self):
        largest = deep(7) & flat(23)
        self.assertEqual(len(largest.atoms()), 24)
        for test in (largest, flat(24), deep(12)):
            for thing in (None, 1, "a", [flat(24)], {}):
                self.bad("part", lambda: test & thing)
                self.bad("part", lambda: test | thing)

    def test_a_refused_combination_changes_nothing(self):
        one, other = flat(24), deep(12)
        texts = [str(one), str(other)]
        for call in (lambda: one & other, lambda: other | one, lambda: ~other, lambda: one & None):
            with self.assertRaises(BadTest):
                call()
        self.assertEqual([str(one), str(other)], texts)
        self.assertEqual([len(one.atoms()), other.levels()], [24, 12])


class TellingTest(unittest.TestCase):
    ATOMS = [
        (compare("b", "<", 1), "compare", ["b"]),
        (against("c", "<", "b"), "against", ["b", "c"]),
        (against("b", "<", "c"), "against", ["b", "c"]),
        (among("a", [2, 1]), "among", ["a"]),
        (begins("x9", ""), "begins", ["x9"]),
        (empty("a"), "empty", ["a"]),
        (always(), "always", []),
        (never(), "never", []),
    ]

    def test_atomic_tests(self):
        for test, kind, names in self.ATOMS:
            self.assertEqual(test.kind(), kind)
            self.assertEqual(test.parts(), [])
            self.assertEqual(test.atoms(), [test])
            self.assertEqual(test.names(), names)
            self.assertEqual(test.levels(), 0)
            self.assertEqual(conjuncts(test), [test])

    def test_combined_tests_of_one_part(self):
        for atom, _, names in self.ATOMS:
            for test, kind in [(~atom, "not"), (sure(atom), "sure")]:
                self.assertEqual(test.kind(), kind)
                self.assertEqual(test.parts(), [atom])
                self.assertEqual(test.atoms(), [atom])
                self.assertEqual(test.names(), names)
                self.assertEqual(test.levels(), 1)
                self.assertEqual(conjuncts(test), [test])

    def test_combined_tests_of_two_parts(self):
        for one, _, _ in self.ATOMS:
            for other, _, _ in self.ATOMS:
                for test, kind in [(one & other, "and"), (one | other, "or")]:
                    self.assertEqual(test.kind(), kind)
                    self.assertEqual(test.parts(), [one, other])
                    self.assertEqual(test.atoms(), [one, other])
                    self.assertEqual(test.names(), sorted(set(one.names() + other.names())))
                    self.assertEqual(test.levels(), 1)

    def test_atoms_stand_from_left_to_right_and_repeat(self):
        a, b, c = compare("a", "<", 1), empty("b"), against("c", "<", "a")
        test = (c | ~(a & b)) & sure(c | a)
        self.assertEqual(test.atoms(), [c, a, b, c, a])
        self.assertEqual([str(atom) for atom in test.atoms()], ["c < a", "a < 1", "b is empty", "c < a", "a < 1"])

    def test_names_ascend_as_strings_and_stand_once(self):
        names = ["b", "a10", "a9", "a", "z", "aa", "b"]
        test = empty(names[0])
        for name in names[1:]:
            test = test | empty(name)
        self.assertEqual(test.names(), ["a", "a10", "a9", "aa", "b", "z"])

    def test_levels_are_those_of_the_deepest_part(self):
        a = compare("a", "<", 1)
        self.assertEqual((a & a).levels(), 1)
        self.assertEqual(((a & a) & a).levels(), 2)
        self.assertEqual((a & (a & a)).levels(), 2)
        self.assertEqual(((a & a) | (a & a)).levels(), 2)
        self.assertEqual(sure(~(a & ~a)).levels(), 4)
        self.assertEqual((~~~a | ~a).levels(), 4)
        self.assertEqual((~a | ~~~a).levels(), 4)
        self.assertEqual([deep(k).levels() for k in range(13)], list(range(13)))

    def test_conjuncts(self):
        a, b, c, d = [compare(name, "<", 1) for name in "abcd"]
        self.assertEqual(conjuncts(a & b), [a, b])
        self.assertEqual(conjuncts((a & b) & (c & d)), [a, b, c, d])
        self.assertEqual(conjuncts(a & (b & (c & d))), [a, b, c, d])
        self.assertEqual(conjuncts(((d & c) & b) & a), [d, c, b, a])
        self.assertEqual(conjuncts((a & a) & a), [a, a, a])
        self.assertEqual(conjuncts((a | b) & ~(c & d)), [a | b, ~(c & d)])
        self.assertEqual(conjuncts(sure(a & b)), [sure(a & b)])
        self.assertEqual(conjuncts((a & b) | c), [(a & b) | c])
        self.assertEqual(conjuncts(~(a & b)), [~(a & b)])
        self.assertEqual(conjuncts(always() & never()), [always(), never()])

    def test_a_list_that_was_told_may_be_changed(self):
        a, b = compare("a", "<", 1), against("b", "<", "c")
        for test in (a, a & b, a | b, ~(a & b), sure(b)):
            for told in (test.parts, test.atoms, test.names, lambda: conjuncts(test)):
                before = list(told())
                told().append("more")
                self.assertEqual(told(), before)
                changed = told()
                changed.clear()
                self.assertEqual(told(), before)
                self.assertIs(type(told()), list)
                self.assertIsNot(told(), told())


if __name__ == "__main__":
    unittest.main()
