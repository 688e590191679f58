"""Point [31]: which things are trees that show that no row meets the wants."""

import random
import unittest

from tests.cases import meets, random_questions, some_row
from tests.helper import Refusals, joined, odd_things
from tworows.errors import BadWant, TooMany
from tworows.logic import against, always, compare, empty, never
from tworows.search import find_row
from tworows.shapes import Shape
from tworows.trees import shows_none

SHAPE = Shape([("n", "number", False), ("m", "number", False), ("f", "number", True), ("t", "text", False), ("u", "text", False)])
LOW, HIGH = ("below", "n", 5), ("below", "n", 8)
MISSED = ("missed",)
# n < 5 and n >= 8.
WANTS = [(compare("n", "<", 5), (True,)), (compare("n", ">=", 8), (True,))]
RING = ("ring", (1, 0))
TREE = ("atom", LOW, ("atom", HIGH, MISSED, RING, MISSED), MISSED, MISSED)


class Trees(unittest.TestCase, Refusals):
    def shows(self, tree, wants=WANTS, shape=SHAPE):
        self.assertIs(shows_none(shape, wants, tree), True, tree)
        self.assertIs(shows_none(shape, tuple(wants), tree), True)

    def fails(self, tree, wants=WANTS, shape=SHAPE):
        self.assertIs(shows_none(shape, wants, tree), False)


class FormTest(Trees):
    def test_a_tree_of_several_levels(self):
        self.shows(TREE)

    def test_a_leaf_alone(self):
        self.shows(MISSED, [(never(), (True,))])
        self.shows(MISSED, [], SHAPE.with_check(never()))
        self.fails(MISSED)
        self.fails(MISSED, [])

    def test_the_branches_stand_for_true_false_and_none(self):
        atom, pair = ("below", "f", 5), ("pair", 0, -1)
        either = [(compare("f", "<", 5) | compare("f", ">=", 5), (False, None))]
        self.shows(("atom", atom, MISSED, MISSED, pair), either)
        for branches in ((pair, MISSED, MISSED), (MISSED, pair, MISSED), (MISSED, MISSED, MISSED), (pair, pair, pair)):
            self.fails(("atom", atom) + branches, either)
        wants = [(compare("f", "<", 5), (False, None)), (compare("f", "<", 3), (True,))]
        inner = ("atom", ("below", "f", 3), ("ring", (0, 1)), MISSED, ("pair", 1, -1))
        self.shows(("atom", atom, MISSED, inner, pair), wants)
        self.fails(("atom", atom, inner, MISSED, pair), wants)
        self.fails(("atom", atom, MISSED, inner[:2] + (MISSED, inner[2], inner[4]), pair), wants)

    def test_a_leaf_in_the_wrong_branch(self):
        self.fails(("atom", LOW, ("atom", HIGH, RING, MISSED, MISSED), MISSED, MISSED))
        self.fails(("atom", LOW, MISSED, ("atom", HIGH, MISSED, RING, MISSED), MISSED))
        self.fails(("atom", LOW, ("atom", HIGH, MISSED, ("ring", (0, 1)), MISSED), MISSED, MISSED))
        self.fails(("atom", HIGH, ("atom", LOW, MISSED, RING, MISSED), MISSED, MISSED))
        self.shows(("atom", HIGH, MISSED, ("atom", LOW, ("ring", (0, 1)), MISSED, MISSED), MISSED))

    def test_open_is_the_empty_tuple_for_empty(self):
        wants = [(empty("n"), (True,)), (compare("n", "<", 5), (True, False))]
        pair = ("pair", 0, 1)
        tree = ("atom", ("empty", "n"), ("atom", LOW, pair, pair, MISSED), MISSED, ())
        self.shows(tree, wants)
        self.shows(("atom", ("empty", "n"), MISSED, MISSED, ()), wants)
        for last in (MISSED, [], None, ((),), "", {}, 0, False, TREE, tree):
            self.fails(tree[:4] + (last,), wants)

    def test_open_is_a_tree_for_below_and_under(self):
        for last in ((), [], None, list(MISSED), "missed"):
            self.fails(TREE[:4] + (last,))
            self.fails(("atom", LOW, ("atom", HIGH, MISSED, RING, last), MISSED, MISSED))
        atom = ("under", "n", "m", 0)
        wants = [(against("n", "<", "m"), (True,)), (against("n", ">", "m"), (True,))]
        other = ("atom", ("under", "n", "m", 1), MISSED, ("ring", (0, 1)), ("open", 1))
        self.shows(("atom", atom, other, MISSED, MISSED), wants)
        self.fails(("atom", atom, other, MISSED, ()), wants)

    def test_every_leaf_counts(self):
        for bad in (("pair", 0, 1), ("open", 0), ("ring", (0,)), ("ring", ()), ("pair", 0, -1), (), None):
            self.fails(("atom", LOW, bad, MISSED, MISSED))
            self.fails(("atom", LOW, TREE[2], bad, MISSED))
            self.fails(("atom", LOW, TREE[2], MISSED, bad))
            for at in (2, 3, 4):
                inner = TREE[2][:at] + (bad,) + TREE[2][at + 1 :]
                self.fails(("atom", LOW, inner, MISSED, MISSED))

    def test_an_atom_that_does_not_occur_in_the_wants(self):
        for atom, last in [
            (("below", "m", 3), TREE), (("below", "t", "x"), TREE), (("under", "n", "m", -7), TREE),
            (("under", "t", "u", 1), TREE), (("empty", "m"), ()),
        ]:
            moved = ("atom", LOW, ("atom", HIGH, MISSED, ("ring", (2, 1)), MISSED), MISSED, MISSED)
            self.shows(("atom", atom, moved, moved, moved if last else ()))

    def test_an_atom_that_occurs_twice_on_a_way(self):
        wants = [(compare("n", "<", 5), (True,)), (compare("n", "<", 5), (False, None))]
        self.shows(("atom", LOW, MISSED, MISSED, MISSED), wants)
        again = ("atom", LOW, MISSED, MISSED, MISSED)
        self.shows(("atom", LOW, again, again, again), wants)

    def test_leaves_name_the_steps_from_the_root_on(self):
        wants = [(compare("f", "<", 5) & compare("f", ">", 5), (True,))]
        tree = ("atom", ("below", "f", 5), ("atom", ("below", "f", 6), ("atom", ("empty", "f"), ("pair", 2, -1), MISSED, ()), MISSED, MISSED),
                MISSED, ("pair", 0, -1))
        self.fails(tree, wants)
        inner = ("atom", ("below", "f", 6), MISSED, ("ring", (1, 0)), ("pair", 1, 0))
        self.shows(("atom", ("below", "f", 5), inner, MISSED, ("pair", 0, -1)), wants)
        for one in (("ring", (0, 1)), ("ring", (2, 0)), ("ring", (1,))):
            self.fails(("atom", ("below", "f", 5), inner[:3] + (one, inner[4]), MISSED, ("pair", 0, -1)), wants)


class WrongTest(Trees):
    BRANCHES = (MISSED, MISSED, MISSED)
    ALL_MISSED = [(never(), (True,))]

    def test_the_atom_of_a_step(self):
        for atom in (LOW, ("below", "t", ""), ("under", "n", "m", -10 ** 40), ("under", "t", "u", 0), ("under", "u", "t", 1)):
            self.shows(("atom", atom) + self.BRANCHES, self.ALL_MISSED)
        self.shows(("atom", ("empty", "f"), MISSED, MISSED, ()), self.ALL_MISSED)

    def test_wrong_atoms(self):
        wrong = [
            ("below", "z", 5), ("below", "n", "5"), ("below", "t", 5), ("below", "n", None), ("below", "n", True), ("below", "n"),
            ("below", "n", 5, 0), ("below", "t", "a\n"), ("below", ("n",), 5), ("below", 1, 5), ("below",), ("under", "n", "m"),
            ("under", "n", "m", 0, 0), ("under", "n", "z", 0), ("under", "z", "n", 0), ("under", "n", "n", 0), ("under", "n", "t", 0),
            ("under", "t", "n", 0), ("under", "t", "u", 2), ("under", "t", "u", -1), ("under", "n", "m", "0"), ("under", "n", "m", None),
            ("under", "n", "m", True), ("under", "t", "u", False), ("under", "n", ["m"], 0), ("under", ["n"], "m", 0),
            ("Below", "n", 5), ("", "n", 5), ("compare", "n", 5), ("n", "below", 5), (), ("missed",), ["below", "n", 5],
            ["below", "n"], "below", None, LOW[1:], (LOW,), compare("n", "<", 5), {"below": 1, "n": 2, "f": 3},
        ]
        for atom in wrong + odd_things():
            self.fails(("atom", atom) + self.BRANCHES, self.ALL_MISSED)
            self.fails(("atom", atom, MISSED, MISSED, ()), self.ALL_MISSED)
            self.fails(("atom", LOW, MISSED, ("atom", atom) + self.BRANCHES, MISSED), self.ALL_MISSED)

    def test_wrong_empty_atoms(self):
        for atom in (("empty", "z"), ("empty",), ("empty", "n", "m"), ("empty", None), ("empty", ["n"]), ("empty", {}), ["empty", "n"]):
            self.fails(("atom", atom, MISSED, MISSED, ()), self.ALL_MISSED)
            self.fails(("atom", atom) + self.BRANCHES, self.ALL_MISSED)

    def test_odd_parts_of_an_atom(self):
        for thing in odd_things():
            for atom in ((thing, "n", 5), ("below", thing, 5), ("below", "n", thing), ("under", thing, "m", 0), ("under", "n", thing, 0),
                         ("under", "n", "m", thing), ("empty", thing), (thing, "n")):
                self.fails(("atom", atom) + self.BRANCHES, self.ALL_MISSED)
                self.fails(("atom", atom, MISSED, MISSED, ()), self.ALL_MISSED)

    def test_odd_trees(self):
        for thing in odd_things() + [1, "", {}, always(), SHAPE, "missed", ["missed"], ("atom",), ((),), list(TREE), TREE[:4], TREE + (MISSED,)]:
            self.fails(thing, self.ALL_MISSED)
            for at in range(1, 5):
                tree = ("atom", LOW) + self.BRANCHES
                self.fails(tree[:at] + (thing,) + tree[at + 1 :], self.ALL_MISSED)
            self.fails((thing, LOW) + self.BRANCHES, self.ALL_MISSED)
            self.fails(("atom", LOW, MISSED, ("atom", LOW, MISSED, thing, MISSED), MISSED), self.ALL_MISSED)

    def test_other_words(self):
        for word in ("Atom", "", "node", b"atom", None, "missed", ("atom",)):
            self.fails((word, LOW) + self.BRANCHES, self.ALL_MISSED)

    def test_the_errors_of_wants_are_ahead_of_all(self):
        many = [(joined([compare("n", "<", at * 20 + k) for k in range(20)]), (True,)) for at in range(4)]
        for tree in (TREE, MISSED, None, [], 7):
            self.refused(BadWant, {"at": -1}, shows_none, SHAPE, {}, tree)
            self.refused(BadWant, {"at": 2}, shows_none, SHAPE, WANTS + [(empty("z"), (True,))], tree)
            self.refused(TooMany, {"limit": 60}, shows_none, SHAPE, many, tree)

    def test_a_tree_190_deep(self):
        tree = MISSED
        for at in range(185):
            tree = ("atom", ("below", "n", at), MISSED, tree, MISSED)
        self.shows(tree, self.ALL_MISSED)
        self.fails(("atom", LOW, MISSED, tree, MISSED), [(always(), (True,))])


class SoundTest(unittest.TestCase):
    def test_a_tree_that_is_changed_is_shown_only_if_no_row_meets_the_wants(self):
        chance = random.Random(31)
        shown = refused = 0
        trees = [(shape, wants, find_row(shape, wants)) for shape, wants in random_questions(31, 150, columns=2, most=4)]
        for shape, wants, (word, tree) in trees:
            if word == "none":
                for kept in [wants[:at] + wants[at + 1 :] for at in range(len(wants))] + [chance.choice(trees)[1]]:
                    try:
                        right = shows_none(shape, kept, tree)
                    except BadWant:
                        continue
                    shown, refused = shown + right, refused + (not right)
                    if right:
                        self.assertIsNone(some_row(shape, kept), tree)
        self.assertGreater(min(shown, refused), 20)

    def test_no_row_meets_what_a_tree_shows(self):
        for shape, wants in random_questions(310, 60, columns=2):
            word, found = find_row(shape, wants)
            if word == "none":
                self.assertIsNone(some_row(shape, wants))
            else:
                self.assertTrue(meets(found, wants))


if __name__ == "__main__":
    unittest.main()
