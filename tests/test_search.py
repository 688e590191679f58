"""Point [32]: a row that meets the wants, or a tree that shows that there is none."""

import itertools
import random
import unittest

from tests.cases import OPS, meets, random_questions, some_row
from tests.helper import Refusals, joined, odd_things
from tworows.errors import BadWant, TooMany
from tworows.logic import against, always, among, begins, compare, empty, never, sure
from tworows.search import find_row
from tworows.shapes import Shape, fits_row
from tworows.trees import shows_none
from tworows.wants import count_atoms

N, M, T, U = ("n", "number", False), ("m", "number", False), ("t", "text", False), ("u", "text", False)
SHAPE = Shape([N, M, T, U])


def depth_of(thing):
    """How deep tuples are nested."""
    if not isinstance(thing, tuple):
        return 0
    return 1 + max([depth_of(part) for part in thing], default=0)


def atoms_of(tree):
    """The basic atoms in a tree."""
    if tree == () or tree[0] != "atom":
        return set()
    return {tree[1]}.union(*[atoms_of(branch) for branch in tree[2:]])


def columns(many, kind="number", filled=False):
    """So many columns c0, c1 and so on."""
    return [(f"c{at}", kind, filled) for at in range(many)]


def holes(many, less, kind="number", filled=False):
    """Wants for so many different values between 0 and a number less 1."""
    wants = []
    for at in range(many):
        column = f"c{at}"
        if kind == "number":
            wants.append((compare(column, ">=", 0) & compare(column, "<", less), (True,)))
        else:
            wants.append((compare(column, "<", " " * less), (True,)))
        wants += [(against(column, "!=", f"c{other}"), (True,)) for other in range(at)]
    return Shape(columns(many, kind, filled)), wants


class Searches(unittest.TestCase, Refusals):
    def find(self, shape, wants):
        """The answer, which is looked at."""
        word, found = answer = find_row(shape, wants)
        self.assertIs(type(answer), tuple)
        if word == "row":
            self.assertIs(fits_row(shape, found), True, found)
            self.assertTrue(meets(found, wants), found)
        else:
            self.assertEqual(word, "none")
            self.assertIs(shows_none(shape, wants, found), True, found)
            self.assertLessEqual(depth_of(found), 200)
        return answer

    def row(self, *wants, shape=SHAPE):
        word, found = self.find(shape, list(wants))
        self.assertEqual(word, "row")
        return found

    def none(self, *wants, shape=SHAPE):
        word, found = self.find(shape, list(wants))
        self.assertEqual(word, "none")
        return found


class OneTestTest(Searches):
    def test_no_wants(self):
        self.assertEqual(set(self.row()), {"n", "m", "t", "u"})
        self.assertEqual(self.find(SHAPE, ())[0], "row")
        self.row(shape=Shape([("n", "number", True), ("t", "text", True)]))

    def test_each_kind_of_atomic_test_with_each_truth(self):
        tests = [compare("n", op, value) for op in OPS for value in (0, -7, 10 ** 40)]
        tests += [compare("t", op, value) for op in OPS for value in ("a", "b c", "~")]
        tests += [against("n", op, "m", more=more) for op in OPS for more in (0, -3, 10 ** 30)]
        tests += [against("t", op, "u") for op in OPS] + [among("n", [3, -3]), among("t", ["", "x", "x"])]
        tests += [begins("t", "a~"), begins("t", "~")]
        for test in tests:
            for truth in (True, False, None):
                self.row((test, (truth,)))
            self.row((test, (True,)), (sure(test), (True,)))
            self.none((test, (True,)), (test, (False,)))
            self.none((test, (False,)), (test, (None,)))
            self.none((sure(test), (None,)))
            self.none((~test, (True,)), (test, (True, None)))

    def test_tests_that_are_never_unknown(self):
        for test in (empty("n"), always(), never(), sure(compare("n", "<", 1))):
            self.none((test, (None,)))
        for truth in (True, False):
            self.row((empty("t"), (truth,)))
        self.row((always(), (True,)))
        self.none((always(), (False, None)))
        self.row((never(), (None, False)))
        self.none((never(), (True,)))

    def test_the_edges_of_texts(self):
        self.none((compare("t", "<", ""), (True,)))
        self.assertEqual(self.row((compare("t", "<=", ""), (True,)))["t"], "")
        self.assertEqual(self.row((compare("t", "<", " "), (True,)))["t"], "")
        self.none((begins("t", ""), (False,)))
        self.none((begins("t", "~") & compare("t", "<", "~"), (True,)))
        self.none((begins("t", "ab"), (True,)), (begins("t", "ac"), (True,)))
        self.row((begins("t", "a"), (True,)), (begins("t", "ab"), (False,)), (compare("t", ">", "ab"), (True,)))
        self.none((compare("t", ">", "a"), (True,)), (compare("t", "<", "a "), (True,)))
        self.assertEqual(self.row((compare("t", ">", "a"), (True,)), (compare("t", "<", "a  "), (True,)))["t"], "a ")

    def test_met_by_one_value_alone(self):
        big = 10 ** 35
        for value in (0, -1, big, -big):
            self.assertEqual(self.row((compare("n", ">", value - 1) & compare("n", "<", value + 1), (True,)))["n"], value)
        wants = [(compare("n", ">", 4), (True,)), (compare("n", "<", 9), (True,)), (among("n", [5, 6, 8, 9, 4]), (False,))]
        self.assertEqual(self.row(*wants)["n"], 7)
        self.none(*wants, (compare("n", "!=", 7), (True,)))
        wants = [(compare("m", "==", 5), (True,)), (against("n", "==", "m", more=-8), (True,))]
        self.assertEqual(self.row(*wants)["n"], -3)
        wants = [(against("t", ">", "u"), (True,)), (compare("t", "<=", "b "), (True,)), (compare("u", ">=", "b"), (True,))]
        found = self.row(*wants)
        self.assertEqual((found["t"], found["u"]), ("b ", "b"))

    def test_met_by_an_empty_place_alone(self):
        for test in (compare("n", "<", 5), among("n", [1, 2]), against("n", "<", "m")):
            found = self.row((test, (None,)))
            self.assertIn(None, (found["n"], found["m"]))
        found = self.row((against("n", "<", "m"), (None,)), (compare("n", ">", 3), (True,)))
        self.assertIsNone(found["m"])
        self.assertGreater(found["n"], 3)
        found = self.row((compare("n", "<", 5), (False, None)), (compare("n", ">=", 5), (False, None)))
        self.assertIsNone(found["n"])
        self.none((against("n", "<", "m"), (None,)), (empty("n"), (False,)), (empty("m"), (False,)))
        self.none((against("n", "<", "m"), (None,)), (against("m", "<", "n", more=9), (True, False)))
        self.none((compare("n", "<", 5), (None,)), (compare("n", ">", 5), (True, False)))
        wants = [(against("n", "<", "m"), (None,)), (against("t", "<", "u"), (None,)), (empty("n") | empty("t"), (False,))]
        found = self.row(*wants)
        self.assertEqual((found["m"], found["u"]), (None, None))

    def test_filled_columns_are_never_empty(self):
        shape = Shape([("n", "number", True), M, ("t", "text", True), U])
        self.none((compare("n", "<", 5), (None,)), shape=shape)
        self.none((empty("t"), (True,)), shape=shape)
        self.assertIsNone(self.row((against("n", "<", "m"), (None,)), shape=shape)["m"])
        self.none((against("n", "<", "m"), (None,)), shape=shape.with_filled("m"))
        found = self.row(shape=shape)
        self.assertEqual((type(found["n"]), type(found["t"])), (int, str))

    def test_joined_tests(self):
        low, high = compare("n", "<", 5), compare("n", ">", 5)
        self.none((low & high, (True,)))
        self.row((low | high, (False,)))
        self.row((low & high, (None,)))
        self.none((low & high, (None,)), (empty("n"), (False,)))
        self.row((low & compare("m", "<", 1), (False,)), (low, (None,)))
        self.row((low | compare("m", "<", 1), (True,)), (low, (None,)))
        self.none((low & compare("m", "<", 1), (True, None)), (low, (False,)))
        self.none((sure(low) | sure(~low), (False,)), (empty("n"), (False,)))
        self.row((sure(low) | sure(~low), (False,)))
        self.none((~(low & compare("m", "<", 1)), (True,)), (low, (True,)), (compare("m", "<", 1), (True, None)))

    def test_wants_of_many_truths(self):
        test = compare("n", "<", 5)
        for truths in itertools.permutations((True, False, None)):
            self.row((test, truths))
            self.row((test, list(truths[:2])))
            self.row((test, truths[:2]), (test, truths[1:]))
            self.none((test, truths[:2]), (test, truths[2:]))


class ShapeTest(Searches):
    def test_checks(self):
        shape = SHAPE.with_check(compare("n", ">=", 5)).with_check(against("n", "<", "m"))
        self.none((compare("m", "<", 6), (True,)), (empty("n"), (False,)), shape=shape)
        self.assertEqual(self.row((compare("m", "<", 7), (True,)), (empty("n"), (False,)), shape=shape)["n"], 5)
        self.assertIsNone(self.row((compare("m", "<", 6), (True,)), shape=shape)["n"])
        self.none(shape=SHAPE.with_check(never()))
        self.none((always(), (True,)), shape=Shape([("n", "number", True)], checks=[compare("n", "<", 0), compare("n", ">=", 0)]))

    def test_a_check_that_is_unknown_is_kept(self):
        shape = SHAPE.with_check(compare("n", "<", 0)).with_check(compare("n", ">=", 0))
        self.assertIsNone(self.row(shape=shape)["n"])
        self.none((empty("n"), (False,)), shape=shape)

    def test_keys_have_no_meaning(self):
        keyed = SHAPE.with_key((("n",), None)).with_key((("t", "u"), never()))
        for wants in ([(compare("n", "==", 5), (True,))], [(never(), (True,))], [(against("t", "<", "u"), (True,))]):
            self.assertEqual(find_row(keyed, wants), find_row(SHAPE, wants))

    def test_wants_in_another_order(self):
        wants = [
            (compare("n", ">", 3), (True,)), (against("n", "<", "m"), (True,)), (compare("m", "<", 6), (True,)),
            (compare("n", "==", 4), (False, None)),
        ]
        for turned in itertools.permutations(wants):
            self.none(*turned)
            self.row(*turned[1:])

    def test_equal_arguments_give_equal_results(self):
        for shape, wants in random_questions(6, 40):
            self.assertEqual(find_row(shape, wants), find_row(shape, [list(want) for want in wants]))

    def test_the_row_is_new(self):
        wants = [[compare("n", "==", 5), [True]]]
        found = find_row(SHAPE, wants)[1]
        found["n"] = 6
        found["z"] = 1
        self.assertEqual(find_row(SHAPE, wants)[1]["n"], 5)
        self.assertEqual(wants, [[compare("n", "==", 5), [True]]])


class ChainTest(Searches):
    def test_rounds_of_columns(self):
        for kind in ("number", "text"):
            for many in (2, 3, 7, 12):
                shape = Shape(columns(many, kind))
                weak = [(against(f"c{at}", "<=", f"c{(at + 1) % many}"), (True,)) for at in range(many)]
                for at in range(many):
                    self.none(*weak[:at], (against(f"c{at}", "<", f"c{(at + 1) % many}"), (True,)), *weak[at + 1 :], shape=shape)
                found = self.row(*weak, shape=shape)
                self.assertEqual(len(set(found.values())), 1)
                self.assertNotIn(None, found.values())
                self.none(*weak, (against("c0", "==", f"c{many - 1}"), (False,)), shape=shape)

    def test_from_one_value_to_another(self):
        shape = Shape(columns(12))
        wants = [(against(f"c{at}", "<", f"c{at + 1}", more=-2), (True,)) for at in range(11)]
        # Each column is at least 3 more than the one ahead of it.
        self.none(*wants, (compare("c0", ">=", 0), (True,)), (compare("c11", "<", 33), (True,)), shape=shape)
        found = self.row(*wants, (compare("c0", ">=", 0), (True,)), (compare("c11", "<=", 33), (True,)), shape=shape)
        self.assertEqual(list(found.values()), list(range(0, 34, 3)))
        found = self.row(*wants, (compare("c11", "<=", -10 ** 30), (True,)), shape=shape)
        self.assertLessEqual(found["c0"], -10 ** 30 - 33)

    def test_from_one_text_to_another(self):
        shape = Shape(columns(12, "text"))
        wants = [(against(f"c{at + 1}", ">", f"c{at}"), (True,)) for at in range(11)]
        self.none(*wants, (compare("c11", "<", " " * 11), (True,)), shape=shape)
        found = self.row(*wants, (compare("c11", "<=", " " * 11), (True,)), shape=shape)
        self.assertEqual(list(found.values()), [" " * at for at in range(12)])
        self.none(*wants, (compare("c3", ">=", "b"), (True,)), (begins("c9", "a"), (True,)), shape=shape)
        self.row(*wants, (begins("c3", "a"), (True,)), (begins("c9", "a"), (True,)), shape=shape)

    def test_of_several_bounds_between_two_columns_the_narrowest_counts(self):
        shape = Shape(columns(3) + [("t0", "text", False), ("t1", "text", False), ("t2", "text", False)])
        for kind, most in (("c", 5), ("t", 0)):
            steps = [against(f"{kind}0", "<", f"{kind}1"), against(f"{kind}0", "<=", f"{kind}1", more=most)]
            steps += [against(f"{kind}1", "<=", f"{kind}2"), against(f"{kind}2", "<=", f"{kind}0")]
            for turned in itertools.permutations(steps):
                self.none(*[(step, (True,)) for step in turned], shape=shape)
                self.row(*[(step, (True,)) for step in turned if step != steps[0]], shape=shape)
        values = [(compare("c0", ">=", value), (True,)) for value in (3, 9, 5)] + [(against("c0", "<=", "c1"), (True,))]
        for turned in itertools.permutations(values + [(compare("c1", "<", 9), (True,))]):
            self.none(*turned, shape=shape)

    def test_numbers_of_any_size(self):
        big = 10 ** 29
        wants = [(against("n", ">", "m", more=big), (True,)), (compare("m", ">", big), (True,))]
        self.none(*wants, (compare("n", "<=", 2 * big + 1), (True,)))
        self.assertEqual(self.row(*wants, (compare("n", "<=", 2 * big + 2), (True,)))["n"], 2 * big + 2)
        self.none((against("n", "<", "m", more=-big), (True,)), (against("m", "<", "n", more=big), (True,)))
        self.none((against("n", "<", "m", more=-big), (True,)), (against("m", "<", "n", more=big + 1), (True,)))
        self.row((against("n", "<", "m", more=-big), (True,)), (against("m", "<", "n", more=big + 2), (True,)))

    def test_every_choice_is_looked_at(self):
        steps = [among("n", [0, 10, 20]), among("m", [5, 15, 25]), against("n", ">", "m", more=10)]
        self.assertEqual((self.row(*[(step, (True,)) for step in steps])["n"]), 20)
        self.none(*[(step, (True,)) for step in steps], (compare("n", "<", 20), (True,)))


class HardTest(Searches):
    def test_different_values_in_too_few_places(self):
        for kind in ("number", "text"):
            for many in (2, 3, 4, 5):
                for filled in (True, False):
                    shape, wants = holes(many, many - 1, kind, filled)
                    self.none(*wants, shape=shape)
                    shape, wants = holes(many, many, kind, filled)
                    found = self.row(*wants, shape=shape)
                    self.assertEqual(len(set(found.values())), many)

    def test_what_does_not_matter_does_not_stand_in_the_tree(self):
        choices = [(among(f"c{at}", [at, at + 2, at + 4]), (True,)) for at in range(1, 9)]
        core = [(compare("c0", "<", 5), (True,)), (compare("c0", ">", 3), (True,)), (compare("c0", "!=", 4), (True,))]
        for wants in (choices + core, core + choices, choices[:4] + core + choices[4:]):
            tree = self.none(*wants, shape=Shape(columns(9)))
            self.assertLess(depth_of(tree), 8)

    def test_choices_that_do_not_matter_do_not_stand_in_the_tree(self):
        shape = Shape(columns(12, filled=True))
        one, other = compare("c0", "<", 5), compare("c1", "<", 5)
        core = [(first | second, (True,)) for first in (one, ~one) for second in (other, ~other)]
        choices = []
        for at in range(2, 6):
            first = compare(f"c{at}", "<", 0)
            for value in range(4):
                second = compare(f"c{at + 6}", "<", value)
                choices += [(first | second, (True,)), (~first | ~second, (True,))]
        self.row(*choices, shape=shape)
        tree = self.none(*choices, *core, shape=shape)
        self.assertEqual(atoms_of(tree), {("below", "c0", 5), ("below", "c1", 5)})
        both = [(first[0] & second[0] | never(), (True,)) for first, second in zip(core, choices)]
        tree = self.none(*choices[4:], *both, shape=shape)
        self.assertLessEqual({("below", "c0", 5), ("below", "c1", 5)}, atoms_of(tree))
        self.assertLess(depth_of(tree), 12)

    def test_exactly_60_basic_atoms(self):
        shape = Shape(columns(12))
        # Each of five values in a column has two basic atoms.
        wants = [(among(f"c{at}", [10 * value for value in range(5)]), (True,)) for at in range(6)]
        self.assertEqual(count_atoms(shape, wants), 60)
        found = self.row(*wants, shape=shape)
        self.assertTrue(all(found[f"c{at}"] in range(0, 50, 10) for at in range(6)))
        wants[5] = (among("c5", [10, 10, 20, 30]) & compare("c5", "<", 0) | never(), (True,))
        self.assertLess(count_atoms(shape, wants), 60)
        self.none(*wants, shape=shape)
        many = [(among(f"c{at}", [10 * value for value in range(5)]), (True,)) for at in range(7)]
        self.assertEqual(count_atoms(shape, many), 70)
        self.refused(TooMany, {"limit": 60}, find_row, shape, many)

    def test_60_basic_atoms_of_comparisons(self):
        shape = Shape(columns(12, filled=True))
        pairs = list(itertools.combinations(range(12), 2))[:60]
        wants = [(against(f"c{one}", "<", f"c{other}") | never(), (True,)) for one, other in pairs]
        self.assertEqual(count_atoms(shape, wants), 60)
        found = self.row(*wants, shape=shape)
        self.assertEqual(sorted(found.values())[:8], [found[f"c{at}"] for at in range(8)])
        wants = wants[:58] + [(against("c11", "<", "c0"), (True,)), (compare("c5", ">", 0), (True,))]
        self.assertEqual(count_atoms(shape, wants), 60)
        self.none(*wants, shape=shape)

    def test_60_wants_of_empty_places(self):
        shape = Shape(columns(12))
        tests = [empty(f"c{at}") | empty(f"c{(at + 1) % 12}") for at in range(12)] * 5
        found = self.row(*[(test, (True,)) for test in tests], shape=shape)
        self.assertGreaterEqual(list(found.values()).count(None), 6)
        full = [(~empty(f"c{at}"), (True,)) for at in range(0, 12, 2)]
        self.row(*[(test, (True,)) for test in tests[:54]], *full, shape=shape)
        self.none(*[(test, (True,)) for test in tests[:53]], *full, (empty("c3"), (False,)), shape=shape)

    def test_large_and_deep_tests(self):
        parts = [compare("n", "!=", value) for value in range(24)]
        wide = parts[0]
        for part in parts[1:8]:
            wide = wide & part
        self.assertEqual(self.row((wide, (True,)), (among("n", list(range(8))) | compare("n", ">", 7), (True,)))["n"], 8)
        deep = compare("n", "<", 5)
        for _ in range(12):
            deep = ~deep
        self.none((deep, (True,)), (compare("n", ">", 4), (True,)))
        self.none((joined(parts), (False,)))
        self.row((joined(parts), (None,)))


class RandomTest(Searches):
    def test_small_questions_against_all_rows(self):
        words = []
        for shape, wants in random_questions(32, 250, columns=2):
            word = self.find(shape, wants)[0]
            words.append(word)
            self.assertEqual(some_row(shape, wants) is None, word == "none")
        self.assertGreater(min(words.count("row"), words.count("none")), 50)

    def test_larger_questions(self):
        words = [self.find(shape, wants)[0] for shape, wants in random_questions(33, 400, columns=5, most=9)]
        self.assertGreater(min(words.count("row"), words.count("none")), 50)

    def test_comparisons_of_columns_alone(self):
        chance = random.Random(34)
        words = []
        for _ in range(300):
            kind, many = chance.choice(("number", "text")), chance.randint(2, 5)
            shape = Shape([(f"c{at}", kind, chance.random() < 0.2) for at in range(many)])
            wants = []
            for _ in range(chance.randint(1, 6)):
                parts = []
                for _ in range(chance.randint(1, 3)):
                    one, other = chance.sample(shape.names(), 2)
                    more = chance.randint(-2, 2) if kind == "number" else 0
                    parts.append(against(one, chance.choice(OPS), other, more=more))
                wants.append((joined(parts), chance.choice([(True,), (False,), (None,), (True, False), (False, None)])))
            words.append(self.find(shape, wants)[0])
        self.assertGreater(min(words.count("row"), words.count("none")), 50)


class WrongTest(Searches):
    def test_the_errors_of_wants(self):
        for thing in odd_things():
            if not isinstance(thing, (list, tuple)):
                self.refused(BadWant, {"at": -1}, find_row, SHAPE, thing)
            self.refused(BadWant, {"at": 0}, find_row, SHAPE, [thing])
        self.refused(BadWant, {"at": -1}, find_row, SHAPE, [(always(), (True,))] * 61)
        self.refused(BadWant, {"at": 1}, find_row, SHAPE, [(never(), (True,)), (empty("z"), (True,))])
        many = [(joined([compare("n", "<", at * 20 + k) for k in range(20)]), (True,)) for at in range(4)]
        self.refused(TooMany, {"limit": 60}, find_row, SHAPE, many)
        self.refused(TooMany, {"limit": 60}, find_row, SHAPE, [(never(), (True,)), *many])


if __name__ == "__main__":
    unittest.main()
