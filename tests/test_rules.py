"""Points [63] to [67]: further rules, own rules, and the least sets of them that make a claim hold."""

import itertools
import random
import unittest

from tests.helper import Refusals, joined, odd_things
from tests.small import deepened, few_claim, few_rule, few_shape, few_tables, large_shapes
from tests.test_claims import CLAIM_WORDS, as_lists, no_sequences
from tworows.errors import BadClaim, BadShape, BadTest, TooMany
from tworows.logic import always, among, begins, compare, empty, never
from tworows.pairs import claim_holds, is_small
from tworows.rules import bare, mends, needed_rules, own_rules, with_rules
from tworows.shapes import Shape, may_stand

T, U = compare("a", "<", 1), empty("b")
COLUMNS = [("a", "number", False), ("b", "text", False), ("c", "number", True)]
SHAPE = Shape(COLUMNS, checks=[T], keys=[(("a",), None)])
PLAIN = Shape(COLUMNS[:2] + [("c", "number", False)])


class Wrong(unittest.TestCase, Refusals):
    WRONG_RULES = [
        (), [], ("check",), ("check", T, T), ("filled",), ("filled", "a", "b"), ("key",), ("key", ["a"], None), ("Check", T), ("x", T), ("x", "a"), ("Filled", "a"), ("", "b"), (T,), T,
        "check", "filled a", ("check", "a < 1"), ("check", empty("z")), ("check", compare("a", "<", "x")), ("check", begins("a", "")),
        ("filled", "z"), ("filled", "A"), ("filled", ["a"]), ("filled", 1), ("key", "a"), ("key", ["a"]), ("key", (["a"], None, None)),
        ("key", (["z"], None)), ("key", ([], None)), ("key", (["a", "a"], None)), ("key", (["a"], empty("z"))), ("key", (["a"], True)),
        ("key", ("a", None)), ("key", (["a", "b", "c", "d"], None)), (b"check", T), ("key", None), {"check": T}, SHAPE,
    ]


class WithTest(Wrong):
    def test_each_form(self):
        for rule, shape in [
            (("check", U), SHAPE.with_check(U)),
            (("key", (("b", "a"), None)), SHAPE.with_key((("b", "a"), None))),
            (("key", (("c",), U)), SHAPE.with_key((("c",), U))),
            (("filled", "a"), SHAPE.with_filled("a")),
            (("filled", "c"), SHAPE),
        ]:
            for thing in ([rule], (rule,), [list(rule)], as_lists((rule,))):
                told = with_rules(SHAPE, thing)
                self.assertIs(type(told), Shape)
                self.assertEqual(told, shape)

    def test_several(self):
        rules = [("key", (("b",), U)), ("check", U), ("filled", "b"), ("filled", "b"), ("check", always()), ("key", (["c"], None)), ("filled", "a")]
        told = with_rules(SHAPE, rules)
        self.assertEqual(told.columns(), [("a", "number", True), ("b", "text", True), ("c", "number", True)])
        self.assertEqual(told.checks(), [T, U, always()])
        self.assertEqual(told.unique_keys(), [(("a",), None), (("b",), U), (("c",), None)])
        self.assertEqual(with_rules(SHAPE, []), SHAPE)
        self.assertEqual(with_rules(SHAPE, ()), SHAPE)
        self.assertEqual(with_rules(SHAPE, [("filled", "a")] * 50), SHAPE.with_filled("a"))

    def test_no_sequence(self):
        for thing in no_sequences(odd_things()) + ["", {}, ("check", T)[0], SHAPE, T]:
            self.refused(BadShape, {"why": "rules", "at": -1}, with_rules, SHAPE, thing)

    def test_no_rule(self):
        right = [("check", U), ("filled", "b")]
        for thing in odd_things() + self.WRONG_RULES:
            self.refused(BadShape, {"why": "rules", "at": 0}, with_rules, SHAPE, [thing])
            self.refused(BadShape, {"why": "rules", "at": 2}, with_rules, SHAPE, right + [thing, None])
            self.refused(BadShape, {"why": "rules", "at": 20}, with_rules, SHAPE, right * 10 + [thing])
        for thing in odd_things():
            for rule in (("check", thing), ("filled", thing), ("key", thing), ("key", ([thing], None)), ("key", (["a", thing], None)), (thing, T)):
                self.refused(BadShape, {"why": "rules", "at": 1}, with_rules, SHAPE, (right[0], rule))
            if thing is not None:
                self.refused(BadShape, {"why": "rules", "at": 0}, with_rules, SHAPE, [("key", (["a"], thing))])

    def test_a_shape_that_is_not_small_any_more(self):
        wide, deep = joined([T] * 9), deepened(T, 9)
        for rules in (
            [("check", U)] * 3, [("key", (["b"], None))] * 3, [("check", wide)], [("check", deep)], [("key", (["b"], wide))], [("key", (["b"], deep))],
            [("check", U)] * 9, [("check", U)] * 30, [("key", (["b"], None))] * 30,
        ):
            self.refused(BadClaim, {"why": "shape"}, with_rules, SHAPE, rules)
            self.refused(BadShape, {"why": "rules", "at": len(rules)}, with_rules, SHAPE, rules + [None])
        for rules in ([("check", U)] * 2, [("key", (["b"], None))] * 2, [("check", joined([T] * 8)), ("check", deepened(T, 8))]):
            self.assertIs(is_small(with_rules(SHAPE, rules)), True)
        for shape in large_shapes():
            self.refused(BadClaim, {"why": "shape"}, with_rules, shape, [])
            self.refused(BadShape, {"why": "rules", "at": 0}, with_rules, shape, [None])

    def test_every_table_is_one_without_the_further_rules(self):
        chance = random.Random(64)
        for _ in range(30):
            shape = few_shape(chance)
            rules = [few_rule(chance, shape) for _ in range(2)]
            wider = with_rules(shape, rules)
            alone = [with_rules(shape, [rule]) for rule in rules]
            for table in few_tables(shape, 2):
                self.assertIs(may_stand(wider, table), all(may_stand(one, table) for one in alone))
            for word in CLAIM_WORDS:
                claim = few_claim(chance, shape, word)
                if claim_holds(shape, claim)[0] == "always":
                    self.assertEqual(claim_holds(wider, claim)[0], "always")


class OwnTest(Wrong):
    FULL = Shape(
        [("a", "number", True), ("b", "text", False), ("c", "number", True)], checks=[T, U], keys=[(("a",), None), (("b",), T), (("c",), None)],
    )
    NAMES = [("filled", "a"), ("filled", "c"), ("check", 0), ("check", 1), ("key", 0), ("key", 1), ("key", 2)]

    def test_own_rules(self):
        told = own_rules(self.FULL)
        self.assertEqual(told, self.NAMES)
        self.assertTrue(type(told) is list and all(type(name) is tuple for name in told))
        self.assertEqual(own_rules(PLAIN), [])
        self.assertEqual(own_rules(SHAPE), [("filled", "c"), ("check", 0), ("key", 0)])
        told.clear()
        self.assertEqual(own_rules(self.FULL), self.NAMES)

    def test_bare(self):
        self.assertEqual(bare(self.FULL, self.NAMES), self.FULL)
        self.assertEqual(bare(self.FULL, []), Shape([(name, kind, False) for name, kind, _ in self.FULL.columns()]))
        self.assertEqual(bare(self.FULL, ()), bare(self.FULL, []))
        kept = [("key", 2), ("check", 1), ("filled", "c"), ("key", 0)]
        expected = Shape(
            [("a", "number", False), ("b", "text", False), ("c", "number", True)], checks=[U], keys=[(("a",), None), (("c",), None)],
        )
        for order in itertools.permutations(kept):
            self.assertEqual(bare(self.FULL, order), expected)
            self.assertEqual(bare(self.FULL, list(order)), expected)

    def test_a_large_shape(self):
        for shape in large_shapes():
            self.assertEqual(bare(shape, own_rules(shape)), shape)
            self.assertEqual(own_rules(bare(shape, [])), [])

    def test_no_sequence(self):
        for thing in no_sequences(odd_things()) + ["", {}, {("check", 0): 1}, SHAPE]:
            self.refused(BadShape, {"why": "rules", "at": -1}, bare, self.FULL, thing)

    def test_no_rules_of_the_shape(self):
        wrong = odd_things() + [
            ["check", 0], ("check", True), ("check", False), ("check", 2), ("check", -1), ("key", 3), ("key", True), ("key", "a"), ("check", "0"),
            ("filled", "b"), ("filled", "z"), ("filled", 0), ("filled", ["a"]), ("check",), ("check", 0, 0), (0, "check"), ("Key", 0), "check 0",
            ("check", T), (b"key", 0), ("key", None), ["filled", "a"], 0, T, (("check", 0),),
        ]
        for thing in wrong:
            self.refused(BadShape, {"why": "rules", "at": 0}, bare, self.FULL, [thing])
            self.refused(BadShape, {"why": "rules", "at": 2}, bare, self.FULL, (("key", 1), ("check", 0), thing, None))
        for thing in odd_things():
            self.refused(BadShape, {"why": "rules", "at": 0}, bare, self.FULL, [("check", thing)])
            self.refused(BadShape, {"why": "rules", "at": 0}, bare, self.FULL, [(thing, 0)])

    def test_a_rule_twice(self):
        for name in self.NAMES:
            self.refused(BadShape, {"why": "rules", "at": 1}, bare, self.FULL, [name, name])
            self.refused(BadShape, {"why": "rules", "at": 7}, bare, self.FULL, self.NAMES + [name])


def plain_mends(shape, claim, candidates):
    """The least sets by looking at every set."""
    found = []
    for size in range(len(candidates) + 1):
        for chosen in itertools.combinations(range(len(candidates)), size):
            wider = with_rules(shape, [candidates[at] for at in chosen])
            if claim_holds(wider, claim)[0] == "always" and not any(set(one) <= set(chosen) for one in found):
                found.append(list(chosen))
    return found


class MendsTest(Wrong):
    def test_holds_already_and_never(self):
        rules = [("check", T), ("filled", "b")]
        self.assertEqual(mends(PLAIN, ("within", T, T), rules), [[]])
        self.assertEqual(mends(PLAIN, ("within", T, T), []), [[]])
        self.assertEqual(mends(PLAIN, ("never", U), []), [])
        self.assertEqual(mends(PLAIN, ("never", compare("c", "==", 5)), rules), [])

    def test_one_and_several(self):
        claim = ("never", empty("b"))
        self.assertEqual(mends(PLAIN, claim, [("check", T), ("filled", "b")]), [[1]])
        self.assertEqual(mends(PLAIN, claim, [("filled", "b"), ("check", ~U), ("filled", "a"), ("filled", "b")]), [[0], [1], [3]])
        claim = ("at_most_one", compare("a", "==", 1))
        self.assertEqual(mends(PLAIN, claim, [("key", (["a", "b"], None)), ("key", (["a"], None)), ("check", T)]), [[1], [2]])
        claim = ("tells", always(), ["a"], ["b"])
        rules = [("filled", "a"), ("key", (["a"], None)), ("check", ~empty("a")), ("key", (["a", "b"], None))]
        self.assertEqual(mends(PLAIN, claim, rules), [[0, 1], [1, 2]])
        self.assertEqual(mends(PLAIN.with_filled("a"), claim, rules), [[1]])

    def test_the_order_of_the_answer(self):
        claim = ("never", compare("a", "<", 5) | empty("a"))
        rules = [
            ("check", compare("a", ">", 3)), ("filled", "a"), ("check", compare("a", "!=", 4)), ("check", compare("a", ">", 4) & ~empty("a")),
        ]
        self.assertEqual(mends(PLAIN, claim, rules), [[3], [0, 1, 2]])
        self.assertEqual(mends(PLAIN, claim, (rules[3], rules[1], rules[2], rules[0])), [[0], [1, 2, 3]])
        claim = ("never", empty("a") & empty("b"))
        rules = [("filled", "b"), ("filled", "c"), ("filled", "a"), ("check", ~(empty("b") & empty("a")))]
        self.assertEqual(mends(PLAIN, claim, rules), [[0], [2], [3]])

    def test_by_looking_at_every_set(self):
        chance = random.Random(65)
        sizes = []
        for _ in range(80):
            shape = few_shape(chance, checks=0, keys=0)
            claim = few_claim(chance, shape, chance.choice(CLAIM_WORDS))
            rules = [few_rule(chance, shape) for _ in range(chance.randint(0, 4))]
            while not fits_small(shape, rules):
                rules.pop()
            told = mends(shape, claim, rules)
            self.assertEqual(told, plain_mends(shape, claim, rules))
            self.assertTrue(all(type(one) is list for one in told))
            sizes += [len(one) for one in told]
        self.assertGreater(sizes.count(1), 5)

    def test_errors_in_their_order(self):
        claim = ("never", T)
        large = Shape([(name, "number", False) for name in "abcde"])
        self.refused(BadClaim, {"why": "shape"}, mends, large, None, None)
        for kind, told, thing in [
            (BadClaim, {"why": "form"}, None), (BadTest, {"why": "part"}, ("never", None)), (BadTest, {"why": "column"}, ("never", empty("z"))),
            (BadClaim, {"why": "large"}, ("never", joined([T] * 9))), (BadClaim, {"why": "column"}, ("constant", T, "z")),
        ]:
            self.refused(kind, told, mends, SHAPE, thing, None)
        for thing in no_sequences(odd_things()) + ["", {}, SHAPE]:
            self.refused(BadShape, {"why": "rules", "at": -1}, mends, SHAPE, claim, thing)
        for thing in odd_things() + self.WRONG_RULES:
            self.refused(BadShape, {"why": "rules", "at": 1}, mends, SHAPE, claim, [("filled", "a"), thing])
            self.refused(TooMany, {"limit": 6}, mends, SHAPE, claim, [("filled", "a")] * 3 + [thing] + [("filled", "b")] * 3)
        self.refused(TooMany, {"limit": 6}, mends, SHAPE, claim, [("filled", "a")] * 7)
        self.assertEqual(mends(SHAPE, ("never", empty("a")), [("filled", "a")] * 6), [[at] for at in range(6)])
        self.refused(BadClaim, {"why": "shape"}, mends, SHAPE, claim, [("check", T)] * 3)
        self.refused(BadClaim, {"why": "shape"}, mends, SHAPE, claim, [("check", T)] * 6)
        self.refused(BadShape, {"why": "rules", "at": 5}, mends, SHAPE, claim, [("check", T)] * 5 + [None])

    def test_too_many_basic_atoms_with_all_candidates(self):
        values = [among("a", [100 * at + 2 * value for value in range(8)]) for at in range(4)]
        rules = [("check", joined(values)), ("filled", "b")]
        self.refused(TooMany, {"limit": 60}, mends, PLAIN, ("never", U), rules)
        self.refused(TooMany, {"limit": 60}, mends, PLAIN, ("never", never()), rules)
        self.assertEqual(mends(PLAIN, ("never", U), rules[1:]), [[0]])
        self.refused(BadClaim, {"why": "shape"}, mends, PLAIN, ("never", U), rules[:1] * 4)

    def test_nothing_that_is_handed_in_changes(self):
        rules = [["filled", "b"], ["key", [["a"], None]]]
        claim = ["never", U]
        told = mends(PLAIN, claim, rules)
        self.assertEqual((rules, claim, told), ([["filled", "b"], ["key", [["a"], None]]], ["never", U], [[0]]))
        told[0].append(1)
        self.assertEqual(mends(PLAIN, claim, rules), [[0]])


def fits_small(shape, rules):
    """Whether the shape with all rules is small."""
    try:
        with_rules(shape, rules)
    except BadClaim:
        return False
    return True


def plain_needed(shape, claim):
    """The least sets of own rules by looking at every set."""
    found = []
    own = own_rules(shape)
    for size in range(len(own) + 1):
        for chosen in itertools.combinations(own, size):
            if claim_holds(bare(shape, chosen), claim)[0] == "always" and not any(set(one) <= set(chosen) for one in found):
                found.append(list(chosen))
    return found


class NeededTest(Wrong):
    def test_none_one_and_several(self):
        self.assertEqual(needed_rules(SHAPE, ("never", U)), [])
        self.assertEqual(needed_rules(SHAPE, ("within", T, T)), [[]])
        self.assertEqual(needed_rules(PLAIN, ("within", T, T)), [[]])
        self.assertEqual(needed_rules(PLAIN, ("never", T)), [])
        self.assertEqual(needed_rules(SHAPE, ("never", empty("c"))), [[("filled", "c")]])
        self.assertEqual(needed_rules(SHAPE, ("never", compare("a", ">", 5))), [[("check", 0)]])
        shape = Shape(
            [("a", "number", True), ("b", "text", True)], checks=[~empty("a"), compare("a", "<", 5)], keys=[(["b"], None), (["a"], None), (["a"], None)],
        )
        self.assertEqual(needed_rules(shape, ("never", empty("a"))), [[("filled", "a")], [("check", 0)]])
        self.assertEqual(needed_rules(shape, ("tells", always(), ["a"], ["b"])), [
            [("filled", "a"), ("key", 1)], [("filled", "a"), ("key", 2)], [("check", 0), ("key", 1)], [("check", 0), ("key", 2)],
        ])

    def test_ten_rules(self):
        names = "abcd"
        shape = Shape(
            [(name, "number", True) for name in names], checks=[compare("a", "<", 3), compare("a", ">", 1), compare("b", "==", 2)],
            keys=[(["a", "b"], None), (["b", "c"], None), (["c"], None)],
        )
        self.assertEqual(len(own_rules(shape)), 10)
        for claim in (("at_most_one", always()), ("never", empty("a") | compare("a", "!=", 2)), ("constant", always(), "b"), ("apart", always(), ["c", "b"])):
            told = needed_rules(shape, claim)
            self.assertGreater(len(told), 0)
            for kept in told:
                self.assertEqual(claim_holds(bare(shape, kept), claim)[0], "always")
                for left in kept:
                    fewer = [name for name in kept if name != left]
                    self.assertEqual(claim_holds(bare(shape, fewer), claim)[0], "rows")
        self.assertEqual(needed_rules(shape, ("at_most_one", always())), [
            [("filled", "a"), ("filled", "b"), ("check", 0), ("check", 1), ("check", 2), ("key", 0)],
        ])

    def test_by_looking_at_every_set(self):
        chance = random.Random(67)
        sizes = []
        for _ in range(70):
            shape = few_shape(chance, checks=2, keys=2)
            claim = few_claim(chance, shape, chance.choice(CLAIM_WORDS))
            told = needed_rules(shape, claim)
            self.assertEqual(told, plain_needed(shape, claim))
            self.assertTrue(all(type(one) is list and all(type(name) is tuple for name in one) for one in told))
            sizes += [len(one) for one in told]
        self.assertGreater(sizes.count(1), 5)

    def test_errors(self):
        large = Shape([(name, "number", False) for name in "abcde"])
        self.refused(BadClaim, {"why": "shape"}, needed_rules, large, None)
        for kind, told, thing in [
            (BadClaim, {"why": "form"}, ("x", T)), (BadTest, {"why": "part"}, ("never", None)), (BadTest, {"why": "column"}, ("never", empty("z"))),
            (BadClaim, {"why": "large"}, ("never", joined([T] * 9))), (BadClaim, {"why": "column"}, ("constant", T, "z")),
        ]:
            self.refused(kind, told, needed_rules, SHAPE, thing)
        for thing in odd_things():
            self.refused(BadClaim, {"why": "form"}, needed_rules, SHAPE, thing)
        values = [among("a", [100 * at + 2 * value for value in range(8)]) for at in range(4)]
        wide = Shape(COLUMNS, checks=[joined(values)])
        self.refused(TooMany, {"limit": 60}, needed_rules, wide, ("never", never()))


if __name__ == "__main__":
    unittest.main()
