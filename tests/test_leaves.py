"""Points [29] and [30]: which leaves hold after a way, and the errors of leaf_holds."""

import random
import unittest

from tests.cases import all_rows, meets, random_questions, random_way
from tests.helper import Refusals, joined, odd_things
from tworows.basics import basic_truth
from tworows.errors import BadWant, TooMany
from tworows.logic import always, compare, empty, never
from tworows.shapes import Shape
from tworows.trees import leaf_holds

SHAPE = Shape([
    ("n", "number", False), ("m", "number", False), ("f", "number", True), ("g", "number", True), ("t", "text", False),
    ("u", "text", False), ("v", "text", True), ("w", "text", True),
])
CHECKED = SHAPE.with_check(compare("n", "<", 5))
FIT = compare("n", "<", 5)


def below(column, value, truth):
    return (("below", column, value), truth)


def under(column, other, more, truth):
    return (("under", column, other, more), truth)


def void(column, truth):
    return (("empty", column), truth)


class Leaves(unittest.TestCase, Refusals):
    def holds(self, way, leaf, wants=(), shape=SHAPE):
        self.assertIs(leaf_holds(shape, wants, way, leaf), True, (way, leaf))
        self.assertIs(leaf_holds(shape, list(wants), tuple(way), leaf), True)

    def fails(self, way, leaf, wants=(), shape=SHAPE):
        self.assertIs(leaf_holds(shape, wants, way, leaf), False, (way, leaf))


class MissedTest(Leaves):
    def test_a_want_that_no_truth_is_left_for(self):
        for truth, wanted, missed in [
            (True, (True,), False), (True, (False,), True), (True, (None,), True), (True, (False, None), True),
            (False, (True, None), True), (False, (None, False), False), (None, (True, False), True), (None, (None,), False),
            (None, (True, False, None), False),
        ]:
            way, wants = [below("n", 5, truth)], [(FIT, wanted)]
            (self.holds if missed else self.fails)(way, ("missed",), wants)
            (self.holds if missed else self.fails)(way, ("missed",), [(always(), (True,)), *wants])

    def test_no_step_and_never(self):
        self.fails([], ("missed",))
        self.fails([], ("missed",), [(FIT, (True,))])
        self.holds([], ("missed",), [(never(), (True,))])
        self.holds([], ("missed",), [(FIT, (True,)), (always(), (False, None))])

    def test_possible_truths_alone_count(self):
        self.fails([below("n", 5, True)], ("missed",), [(compare("n", "<", 6), (False,))])
        self.fails([], ("missed",), [(FIT & ~FIT, (True,))])
        self.holds([void("n", True)], ("missed",), [(FIT, (True, False))])
        self.holds([void("n", False)], ("missed",), [(FIT, (None,))])
        self.holds([], ("missed",), [(empty("f"), (True,))])
        self.fails([], ("missed",), [(empty("n"), (True,))])

    def test_checks(self):
        self.holds([below("n", 5, False)], ("missed",), (), CHECKED)
        self.fails([below("n", 5, True)], ("missed",), (), CHECKED)
        self.fails([below("n", 5, None)], ("missed",), (), CHECKED)
        self.fails([], ("missed",), (), CHECKED)
        self.fails([below("n", 5, False)], ("missed",))
        self.holds([], ("missed",), (), SHAPE.with_check(always()).with_check(never()))

    def test_keys_do_not_count(self):
        self.fails([], ("missed",), (), SHAPE.with_key((("n",), never())))


class PairTest(Leaves):
    def test_each_form_that_makes_empty(self):
        for one in (void("n", True), below("n", 5, None)):
            for other in (
                void("n", False), below("n", 9, True), below("n", 9, False), under("n", "m", 0, True), under("m", "n", 0, True),
                under("n", "m", 0, False), under("m", "n", -3, False),
            ):
                self.holds([one, other], ("pair", 0, 1))
                self.holds([other, one], ("pair", 1, 0))
                self.holds([other, void("t", True), one], ("pair", 2, 0))
                self.fails([one, other], ("pair", 1, 0))
                self.fails([one, other], ("pair", 0, 0))
                self.fails([one, other], ("pair", 0, -1))

    def test_steps_that_make_nothing_known(self):
        one = void("n", True)
        for other in (under("n", "m", 0, None), void("n", True), below("n", 5, None), void("m", False), below("m", 5, True)):
            self.fails([one, other], ("pair", 0, 1))
        for other in (under("n", "m", 0, None), void("n", False), below("n", 5, True)):
            self.fails([other, void("n", False)], ("pair", 0, 1))
            self.fails([other], ("pair", 0, -1))

    def test_filled_columns(self):
        self.holds([void("f", True)], ("pair", 0, -1))
        self.holds([below("f", 5, None)], ("pair", 0, -1))
        self.holds([void("n", True), below("v", "a", None)], ("pair", 1, -1))
        self.fails([void("n", True)], ("pair", 0, -1))
        self.fails([below("n", 5, None), void("f", False)], ("pair", 0, -1))
        self.fails([void("f", False)], ("pair", 0, -1))
        self.fails([under("f", "g", 0, None)], ("pair", 0, -1))

    def test_numbers_of_steps(self):
        way = [void("n", True), void("n", False), void("f", True)]
        self.holds(way, ("pair", 0, 1))
        for one, other in [
            (-1, 1), (3, 1), (0, 3), (0, -2), (2, -2), (2, 3), (-3, 1), (0, 100), (-1, -1), (1, 0), (False, 1), (0, True),
            (2, None), (None, 1), ("0", 1), (0, "1"), ((0,), 1), ([], 1), (0, {}),
        ]:
            self.fails(way, ("pair", one, other))
        self.fails([], ("pair", 0, -1))


class OpenTest(Leaves):
    def test_both_columns_are_known_to_be_not_empty(self):
        step = under("n", "m", 0, None)
        for one in (void("n", False), below("n", 5, True), under("n", "f", 0, False)):
            for other in (void("m", False), below("m", 5, False), under("f", "m", 7, True)):
                self.holds([step, one, other], ("open", 0))
                self.holds([one, step, other], ("open", 1))
                self.holds([one, other, step], ("open", 2))
            self.fails([step, one], ("open", 0))
            self.fails([one, step, void("t", False)], ("open", 1))
        self.holds([step, under("m", "n", 3, True)], ("open", 0))

    def test_filled_columns(self):
        self.holds([under("f", "g", 0, None)], ("open", 0))
        self.fails([under("f", "n", 0, None)], ("open", 0))
        self.holds([under("f", "n", 0, None), void("n", False)], ("open", 0))

    def test_other_steps(self):
        way = [void("n", False), void("m", False), under("n", "m", 0, None), below("n", 3, None), under("n", "m", 1, True)]
        self.holds(way, ("open", 2))
        for at in (0, 1, 3, 4, 5, -1, -3, True, None, "2", (2,), [2]):
            self.fails(way, ("open", at))
        self.fails([void("n", False), void("m", False), below("n", 3, None)], ("open", 2))


class RingOfNumbersTest(Leaves):
    def test_from_the_start_to_the_end(self):
        self.holds([below("n", 5, False), below("n", 5, True)], ("ring", (0, 1)))
        self.holds([below("n", 5, True), below("n", 6, False)], ("ring", (1, 0)))
        self.fails([below("n", 5, False), below("n", 6, True)], ("ring", (0, 1)))
        self.fails([below("n", 5, True), below("n", 5, False)], ("ring", (0, 1)))
        self.holds([below("n", -10 ** 40, True), below("n", -10 ** 40, False)], ("ring", (1, 0)))

    def test_through_other_columns(self):
        way = [below("n", 5, False), under("n", "m", 0, True), under("m", "f", -2, True)]
        # From n at least 5, m at least 6 and f at least 9.
        for end, right in [(8, True), (9, True), (10, False)]:
            (self.holds if right else self.fails)(way + [below("f", end, True)], ("ring", (0, 1, 2, 3)))
        way = [below("n", 5, False), under("m", "n", 0, False), under("f", "m", -2, False)]
        # m is at least n, f is at least m less 2.
        for end, right in [(2, True), (3, True), (4, False)]:
            (self.holds if right else self.fails)(way + [below("f", end, True)], ("ring", (0, 1, 2, 3)))

    def test_gains_of_a_round(self):
        for more, other, right in [(0, 0, True), (1, 0, True), (0, 1, True), (1, 1, False), (2, 0, False), (-5, 6, True), (-5, 7, False)]:
            way = [under("n", "m", more, True), under("m", "n", other, True)]
            self.assertIs(2 - more - other > 0, right)
            (self.holds if right else self.fails)(way, ("ring", (0, 1)))
            (self.holds if right else self.fails)(way, ("ring", (1, 0)))
        for more, other, right in [(0, 0, False), (1, 0, True), (0, 1, True), (-1, 1, False), (-1, 2, True)]:
            way = [under("n", "m", more, False), under("m", "n", other, False)]
            (self.holds if right else self.fails)(way, ("ring", (0, 1)))

    def test_true_and_false_lead_opposite_ways(self):
        way = [under("n", "m", 3, True), under("n", "m", 3, False)]
        self.holds(way, ("ring", (0, 1)))
        self.holds(way, ("ring", (1, 0)))
        self.fails([under("n", "m", 4, True), under("n", "m", 3, False)], ("ring", (0, 1)))
        self.holds([under("n", "m", 3, True), under("n", "m", 4, False)], ("ring", (0, 1)))
        self.fails([under("n", "m", 0, True), under("m", "n", 0, False)], ("ring", (0, 1)))

    def test_rounds_of_three(self):
        way = [under("n", "m", 0, True), under("m", "f", 5, True), under("n", "f", 6, False)]
        # n at most m less 1, m at most f plus 4, f at most n less 6.
        self.holds(way, ("ring", (0, 1, 2)))
        for order in ((0, 1, 2), (1, 2, 0), (2, 0, 1)):
            self.holds(way, ("ring", order))
        for order in ((0, 2, 1), (1, 0, 2), (2, 1, 0), (0, 1), (1, 2), (2, 0), (0,), (1,)):
            self.fails(way, ("ring", order))

    def test_from_a_column_to_the_end(self):
        self.fails([below("n", -10 ** 9, True)], ("ring", (0,)))
        self.fails([under("n", "m", -5, True), below("m", -10 ** 9, True)], ("ring", (0, 1)))

    def test_from_the_start_to_a_column(self):
        self.fails([below("n", 5, False)], ("ring", (0,)))
        self.fails([below("n", 5, False), under("n", "m", -5, True)], ("ring", (0, 1)))


class RingOfTextsTest(Leaves):
    def test_from_the_start_to_the_end(self):
        for least, end, right in [("b", "b", True), ("b", "a", True), ("b", "b ", False), ("", "", True), ("", " ", False)]:
            (self.holds if right else self.fails)([below("t", least, False), below("t", end, True)], ("ring", (0, 1)))

    def test_through_other_columns(self):
        for one, other, spaces in [
            (under("t", "u", 0, True), under("u", "v", 0, True), 2), (under("t", "u", 1, True), under("u", "v", 0, True), 1),
            (under("t", "u", 1, True), under("u", "v", 1, True), 0), (under("u", "t", 1, False), under("u", "v", 1, True), 1),
            (under("u", "t", 0, False), under("v", "u", 1, False), 1), (under("u", "t", 0, False), under("v", "u", 0, False), 0),
        ]:
            least = "b" + " " * spaces
            for end, right in [("b" + " " * (spaces + 1), False), (least, True), (least[:-1], True), ("c", False), ("a", True)]:
                way = [below("t", "b", False), one, other, below("v", end, True)]
                (self.holds if right else self.fails)(way, ("ring", (0, 1, 2, 3)))

    def test_from_a_column_to_the_end(self):
        self.holds([below("t", "", True)], ("ring", (0,)))
        self.fails([below("t", " ", True)], ("ring", (0,)))
        self.holds([under("t", "u", 0, True), below("u", " ", True)], ("ring", (0, 1)))
        self.fails([under("t", "u", 0, True), below("u", "  ", True)], ("ring", (0, 1)))
        self.fails([under("t", "u", 1, True), below("u", " ", True)], ("ring", (0, 1)))
        self.holds([under("t", "u", 1, True), below("u", "", True)], ("ring", (0, 1)))
        self.holds([under("t", "u", 0, False), below("t", "", True)], ("ring", (0, 1)))
        self.holds([under("t", "u", 1, False), below("t", " ", True)], ("ring", (0, 1)))
        self.fails([under("t", "u", 0, False), below("t", " ", True)], ("ring", (0, 1)))

    def test_rounds_with_and_without_a_strict_bound(self):
        strict, weak = [under("t", "u", 0, True), under("t", "u", 1, False)], [under("t", "u", 1, True), under("t", "u", 0, False)]
        # Of both, the first leads from t to u and the second from u to t.
        for one, other, right in [
            (strict[0], strict[1], True), (strict[0], weak[1], True), (weak[0], strict[1], True), (weak[0], weak[1], False),
        ]:
            (self.holds if right else self.fails)([one, other], ("ring", (0, 1)))
            (self.holds if right else self.fails)([one, other], ("ring", (1, 0)))
        self.fails(weak, ("ring", (0, 1, 0, 1)))
        self.fails([under("t", "u", 1, True), under("u", "t", 1, True)], ("ring", (0, 1)))
        self.holds([under("t", "u", 1, True), under("u", "v", 1, True), under("v", "t", 0, True)], ("ring", (0, 1, 2)))


class RingOfStepsTest(Leaves):
    def test_bounds_that_do_not_meet(self):
        self.fails([below("n", 5, False), below("m", 5, True)], ("ring", (0, 1)))
        self.fails([below("n", 5, False), under("m", "n", 0, True), below("m", 0, True)], ("ring", (0, 1, 2)))
        self.fails([under("n", "m", 0, True), under("f", "n", 0, True)], ("ring", (0, 1)))
        self.fails([below("n", 5, False), below("t", "", True)], ("ring", (0, 1)))

    def test_a_start_that_is_not_first(self):
        way = [below("n", 5, False), below("n", 5, True), under("n", "m", 0, True), under("m", "n", 0, True)]
        self.holds(way, ("ring", (0, 1)))
        self.holds(way, ("ring", (0, 2, 3, 1)))
        self.holds(way, ("ring", (2, 3)))
        for steps in ((2, 3, 0), (0, 0, 1), (2, 0, 1), (3, 0, 1), (0, 1, 0, 1), (1, 0, 1), (0, 2, 3)):
            self.fails(way, ("ring", steps))

    def test_an_end_that_is_not_last(self):
        way = [below("n", 5, False), below("n", 5, True), under("n", "m", 0, True), below("m", 0, True)]
        for steps in ((0, 1, 1), (0, 1, 2, 3), (1, 2, 3), (0, 1, 0), (1, 0)):
            self.fails(way, ("ring", steps))

    def test_steps_without_bounds(self):
        way = [below("n", 5, False), below("n", 5, True), void("n", False), below("n", 5, None)]
        way += [under("n", "m", 0, None), under("m", "n", 0, True), void("t", True)]
        self.holds(way, ("ring", (0, 1)))
        for steps in ((0, 2, 1), (2, 0, 1), (0, 1, 2), (2,), (3,), (4,), (6,), (4, 5), (0, 4, 1), (3, 1), (0, 3)):
            self.fails(way, ("ring", steps))

    def test_repeated_steps(self):
        way = [under("n", "m", 0, True), under("m", "n", 0, True), below("n", 0, False), below("n", 5, True)]
        self.holds(way, ("ring", (0, 1, 0, 1)))
        self.fails(way, ("ring", (2, 3)))
        self.fails(way, ("ring", (2, 0, 1, 3)))
        self.fails(way, ("ring", (2, 0, 1, 0, 1, 3)))
        self.holds(way, ("ring", (2, 0, 1, 0, 1, 0, 1, 3)))
        self.fails(way, ("ring", (0, 0, 1)))

    def test_equal_steps_at_two_places(self):
        way = [below("n", 5, False), below("n", 5, False), below("n", 5, True), below("n", 5, True)]
        for first in (0, 1):
            for last in (2, 3):
                self.holds(way, ("ring", (first, last)))

    def test_numbers_of_steps(self):
        way = [below("n", 5, False), below("n", 5, True)]
        self.holds(way, ("ring", (0, 1)))
        for steps in (
            (), (0, 2), (-1, 1), (0, -1), (2,), (-2, -1), (False, True), (0, True), (False, 1), [0, 1], "01", 0, None, {0: 1},
            ((0, 1),), (0, (1,)), (0, [1]), (0, {}), (0, "1"), (0, None), {0, 1}, range(2),
        ):
            self.fails(way, ("ring", steps))


class FormTest(Leaves):
    WAY = [void("f", True), under("f", "g", 0, None), below("n", 5, False), below("n", 5, True)]
    WANTS = ((never(), (True,)),)
    RIGHT = (("missed",), ("pair", 0, -1), ("open", 1), ("ring", (2, 3)))

    def test_right_leaves(self):
        for leaf in self.RIGHT:
            self.holds(self.WAY, leaf, self.WANTS)

    def test_lists_and_other_numbers_of_parts(self):
        for leaf in self.RIGHT:
            for thing in (list(leaf), leaf[1:], leaf[:-1] if len(leaf) > 1 else (), leaf + (0,), leaf + ((),), (leaf,), str(leaf)):
                self.fails(self.WAY, thing, self.WANTS)

    def test_other_words(self):
        for leaf in self.RIGHT:
            for word in ("", "Missed", "atom", "miss", b"missed", None, 0, "missed ", ("missed",), ["pair"], {}):
                self.fails(self.WAY, (word,) + leaf[1:], self.WANTS)
        for word in ("missed", "pair", "open", "ring"):
            self.fails(self.WAY, word, self.WANTS)
            for leaf in self.RIGHT:
                if leaf[0] != word:
                    self.fails(self.WAY, (word,) + leaf[1:], self.WANTS)

    def test_odd_things(self):
        for thing in odd_things() + [9, "", {}, always(), SHAPE, ((),), ("atom",)]:
            self.fails(self.WAY, thing, self.WANTS)
            self.fails(self.WAY, (thing,), self.WANTS)
            for word in ("missed", "pair", "open", "ring"):
                self.fails(self.WAY, (word, thing), self.WANTS)
                self.fails(self.WAY, (word, 0, thing), self.WANTS)
                self.fails(self.WAY, (word, thing, -1), self.WANTS)
                self.fails(self.WAY, (word, (2, thing)), self.WANTS)

    def test_the_errors_of_wants_are_ahead_of_all(self):
        many = [(joined([compare("n", "<", at * 20 + k) for k in range(20)]), (True,)) for at in range(4)]
        for leaf in self.RIGHT + (None, [], ("ring", ())):
            for way in (self.WAY, []):
                self.refused(BadWant, {"at": -1}, leaf_holds, SHAPE, None, way, leaf)
                self.refused(BadWant, {"at": 1}, leaf_holds, SHAPE, [(FIT, (True,)), (FIT, True)], way, leaf)
                self.refused(TooMany, {"limit": 60}, leaf_holds, SHAPE, many, way, leaf)


class SoundTest(unittest.TestCase):
    def test_no_row_has_the_truths_of_a_way_with_a_leaf_that_holds(self):
        chance = random.Random(29)
        held = {}
        for shape, wants in random_questions(29, 60, columns=2):
            tests = [test for test, _ in wants]
            rows = list(all_rows(shape))
            for _ in range(20):
                way = random_way(chance, shape, tests, None, chance.randint(1, 5))
                steps = range(len(way))
                leaves = [("missed",)] + [("open", one) for one in steps]
                leaves += [("pair", one, other) for one in steps for other in (-1, *steps)]
                leaves += [("ring", tuple(chance.choice(steps) for _ in range(chance.randint(1, 4)))) for _ in range(10)]
                for leaf in leaves:
                    if leaf_holds(shape, wants, way, leaf):
                        held[leaf[0]] = held.get(leaf[0], 0) + 1
                        found = [row for row in rows if all(basic_truth(atom, row) is truth for atom, truth in way)]
                        self.assertFalse([row for row in found if meets(row, wants)], (way, leaf))
        self.assertEqual(sorted(held), ["missed", "open", "pair", "ring"])
        self.assertGreater(min(held.values()), 5)


if __name__ == "__main__":
    unittest.main()
