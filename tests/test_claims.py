"""Points [47] to [50]: claims, their cases, and what shows that they hold or do not."""

import itertools
import random
import unittest

from tests.helper import Refusals, joined, odd_things
from tests.small import deepened, few_claim, few_shape, few_tables
from tworows.errors import BadClaim, BadOrder, BadTest
from tworows.logic import against, always, begins, compare, empty, never
from tworows.orders import comes_ahead, turned
from tworows.pairs import (
    ahead, breaks, cases_of, claim_holds, clash, copies, copy_test, need_claim, same, shows_claim,
)
from tworows.shapes import Shape, may_stand
from tworows.trees import shows_none

CLAIM_WORDS = ("never", "within", "at_most_one", "constant", "tells", "apart", "follows")
T, U = compare("a", "<", 1), empty("b")
O, P = (("a", "up"), ("b", "down")), (("c", "down"),)
CLAIMS = [
    ("never", T), ("within", T, U), ("at_most_one", T), ("constant", T, "a"), ("tells", T, ("a",), ("b", "c")),
    ("apart", T, ("a", "b")), ("follows", T, O, P),
]
SHAPE = Shape([("a", "number", False), ("b", "text", False), ("c", "number", False)])
YES, NOT = (True,), (False, None)


def as_lists(thing):
    """The same with a list in the place of each tuple."""
    return [as_lists(part) for part in thing] if isinstance(thing, tuple) else thing


def tuples_alone(thing):
    """Whether no list stands in a thing."""
    return not isinstance(thing, list) and (not isinstance(thing, tuple) or all(tuples_alone(part) for part in thing))


def no_sequences(things):
    """Those that are no list and no tuple."""
    return [thing for thing in things if not isinstance(thing, (list, tuple))]


class NeedTest(unittest.TestCase, Refusals):
    def bad(self, kind, told, thing):
        self.refused(kind, told, need_claim, thing)
        self.refused(kind, told, cases_of, SHAPE, thing)

    def test_lists_and_tuples(self):
        for claim in CLAIMS:
            for thing in (claim, list(claim), as_lists(claim)):
                told = need_claim(thing)
                self.assertEqual(told, claim)
                self.assertTrue(tuples_alone(told))
                self.assertIs(type(told), tuple)

    def test_the_numbers_of_names(self):
        for xs in ([], ["a"], ["a", "b"], ["c", "b", "a"]):
            self.assertEqual(need_claim(["tells", T, xs, ["a"]]), ("tells", T, tuple(xs), ("a",)))
            for word, parts in (("tells", (["a"], xs)), ("apart", (xs,))):
                if xs:
                    self.assertEqual(need_claim((word, T, *parts))[-1], tuple(xs))
                else:
                    self.bad(BadClaim, {"why": "names"}, (word, T, *parts))
        four = ["a", "b", "c", "d"]
        for claim in (("tells", T, four, ["a"]), ("tells", T, ["a"], four), ("apart", T, four)):
            self.bad(BadClaim, {"why": "names"}, claim)

    def test_no_sequence_no_word_and_another_number_of_parts(self):
        things = odd_things() + [5, "", "never", {}, {"never": T}, T, SHAPE, (), [], (T,), ("Never", T), ("", T), ("x", T)]
        for thing in things:
            self.bad(BadClaim, {"why": "form"}, thing)
        for thing in odd_things():
            self.bad(BadClaim, {"why": "form"}, (thing, T))
            self.bad(BadClaim, {"why": "form"}, [thing, T, T])
        for claim in CLAIMS:
            self.bad(BadClaim, {"why": "form"}, claim[:-1])
            self.bad(BadClaim, {"why": "form"}, claim + (T,))
            self.bad(BadClaim, {"why": "form"}, (claim,))
            self.bad(BadClaim, {"why": "form"}, ([claim[0]], *claim[1:]))
        self.bad(BadClaim, {"why": "form"}, ("tells", None, None))

    def test_each_part_wrong(self):
        for claim in CLAIMS:
            for thing in odd_things() + ["a < 1", 1, claim]:
                self.bad(BadTest, {"why": "part"}, (claim[0], thing, *claim[2:]))
        for thing in odd_things() + ["a < 1"]:
            self.bad(BadTest, {"why": "part"}, ("within", T, thing))
        for thing in odd_things() + ["A", "", "empty", "abcdefghi", 1, ["a"], ("a",), T]:
            self.bad(BadClaim, {"why": "names"}, ("constant", T, thing))
            for names in ([thing], ["a", thing], ("b", "c", thing)):
                self.bad(BadClaim, {"why": "names"}, ("apart", T, names))
                self.bad(BadClaim, {"why": "names"}, ("tells", T, names, ["a"]))
                self.bad(BadClaim, {"why": "names"}, ("tells", T, ["a"], names))
        for thing in no_sequences(odd_things()) + ["a", "abc", {"a": 1}, T]:
            self.bad(BadClaim, {"why": "names"}, ("apart", T, thing))
            self.bad(BadClaim, {"why": "names"}, ("tells", T, thing, ["a"]))
            self.bad(BadClaim, {"why": "names"}, ("tells", T, [], thing))
            self.bad(BadOrder, {"at": -1}, ("follows", T, thing, P))
            self.bad(BadOrder, {"at": -1}, ("follows", T, O, thing))
        for names in (["a", "a"], ("a", "b", "a")):
            self.bad(BadClaim, {"why": "names"}, ("apart", T, names))
            self.bad(BadClaim, {"why": "names"}, ("tells", T, names, ["a"]))
            self.bad(BadClaim, {"why": "names"}, ("tells", T, ["a"], names))
        for order, at in (([], -1), ([O[0]] * 2, 1), ([O[0], None], 1), ([("a", "Up")], 0), ([("a", "up")] * 4, -1)):
            self.bad(BadOrder, {"at": at}, ("follows", T, order, P))
            self.bad(BadOrder, {"at": at}, ("follows", T, O, order))

    def test_several_parts_wrong(self):
        self.bad(BadTest, {"why": "part"}, ("within", None, None))
        self.bad(BadTest, {"why": "part"}, ("constant", None, None))
        self.bad(BadTest, {"why": "part"}, ("tells", None, None, None))
        self.bad(BadClaim, {"why": "names"}, ("tells", T, None, []))
        self.bad(BadTest, {"why": "part"}, ("follows", 1, [], []))
        self.bad(BadOrder, {"at": 0}, ("follows", T, [None], []))
        self.bad(BadOrder, {"at": -1}, ("follows", T, P, []))

    def test_the_form_alone(self):
        large = joined([begins("zzz", "x")] * 20)
        for claim in (("never", large), ("constant", T, "zzz"), ("follows", T, [("z", "up")], [("y", "up")]), ("apart", T, ["z"])):
            self.assertEqual(need_claim(claim)[0], claim[0])

    def test_what_is_handed_in_stays_as_it_is(self):
        names, order = ["a"], [["a", "up"]]
        one, other = ["tells", T, names, names], ["follows", T, order, order]
        told = need_claim(one), need_claim(other)
        self.assertEqual((one, other), (["tells", T, ["a"], ["a"]], ["follows", T, [["a", "up"]], [["a", "up"]]]))
        names.append("b")
        order[0][0] = "b"
        self.assertEqual(told, (("tells", T, ("a",), ("a",)), ("follows", T, (("a", "up"),), (("a", "up"),))))


class PutTest(unittest.TestCase, Refusals):
    """Point [48]."""

    def bad(self, kind, told, claim, shape=SHAPE):
        for call, given in ((cases_of, ()), (claim_holds, ()), (breaks, ([],)), (shows_claim, (None,))):
            self.refused(kind, told, call, shape, claim, *given)

    def test_tests(self):
        wide, deep, wide_elsewhere = joined([T] * 9), deepened(T, 9), joined([empty("z")] * 9)
        for claim in CLAIMS:
            for test in (empty("z"), compare("a", "<", "1"), begins("a", "x"), against("a", "<", "b"), wide_elsewhere):
                self.bad(BadTest, {"why": "column"}, (claim[0], test, *claim[2:]))
            for test in (wide, deep):
                self.bad(BadClaim, {"why": "large"}, (claim[0], test, *claim[2:]))
            for test in (joined([T] * 8), deepened(T, 8)):
                self.assertEqual(len(cases_of(SHAPE, (claim[0], test, *claim[2:]))), 1)
        self.bad(BadTest, {"why": "column"}, ("within", T, empty("z")))
        self.bad(BadClaim, {"why": "large"}, ("within", T, wide))

    def test_columns(self):
        self.bad(BadClaim, {"why": "column"}, ("constant", T, "z"))
        for names in (["z"], ["a", "z"], ("z", "y", "a")):
            self.bad(BadClaim, {"why": "column"}, ("apart", T, names))
            self.bad(BadClaim, {"why": "column"}, ("tells", T, names, ["a"]))
            self.bad(BadClaim, {"why": "column"}, ("tells", T, ["a"], names))
        for at, order in ((0, [("z", "up")]), (1, [("a", "up"), ("z", "up")]), (2, O + (("z", "up"),)), (0, [("z", "up"), ("y", "up")])):
            self.bad(BadOrder, {"at": at}, ("follows", T, order, P))
            self.bad(BadOrder, {"at": at}, ("follows", T, P, order))

    def test_their_order(self):
        wide, strange = joined([T] * 9), empty("z")
        z = [("z", "up")]
        large = Shape([(name, "number", False) for name in "abcde"])
        self.bad(BadClaim, {"why": "shape"}, None, large)
        self.bad(BadClaim, {"why": "form"}, ("within", wide))
        self.bad(BadTest, {"why": "part"}, ("within", wide, None))
        self.bad(BadClaim, {"why": "names"}, ("constant", strange, "Z"))
        self.bad(BadOrder, {"at": 0}, ("follows", wide, z, [("a", "x")]))
        self.bad(BadClaim, {"why": "large"}, ("within", wide, strange))
        self.bad(BadTest, {"why": "column"}, ("within", strange, wide))
        self.bad(BadClaim, {"why": "large"}, ("constant", wide, "z"))
        self.bad(BadTest, {"why": "column"}, ("tells", strange, ["z"], ["z"]))
        self.bad(BadClaim, {"why": "large"}, ("follows", wide, z, z))
        self.bad(BadOrder, {"at": 0}, ("follows", T, z, (("a", "up"), ("y", "up"))))
        self.bad(BadOrder, {"at": 1}, ("follows", T, P, (("a", "up"), ("y", "up"))))


class CasesTest(unittest.TestCase):
    """Point [49]: the wants in the document's order."""

    def case(self, claim, shape=SHAPE):
        told = cases_of(shape, claim)
        self.assertIs(type(told), list)
        self.assertEqual(len(told), 1)
        case = told[0]
        self.assertEqual((type(case), len(case), type(case[1])), (tuple, 2, list))
        for want in case[1]:
            self.assertEqual((type(want), len(want), type(want[1])), (tuple, 2, tuple))
        return case

    def test_of_one_row(self):
        keyed = SHAPE.with_key((("a",), None)).with_check(T)
        for shape in (SHAPE, keyed):
            self.assertEqual(self.case(("never", T), shape), (1, [(copy_test(T, 1), YES)]))
            self.assertEqual(self.case(["within", T, U], shape), (1, [(copy_test(T, 1), YES), (copy_test(U, 1), NOT)]))

    def test_of_two_rows(self):
        keys = [(("a",), None), (("b", "a"), T), (("c", "a", "b"), None)]
        own = {
            "at_most_one": [],
            "constant": [(same(("a",), 1, 2), NOT)],
            "tells": [(same(("a",), 1, 2), YES), (same(("b", "c"), 1, 2), NOT)],
            "apart": [(same(("a", "b"), 1, 2), YES)],
            "follows": [(ahead(turned(O), 1, 2), NOT), (ahead(turned(P), 1, 2), YES)],
        }
        for many in range(4):
            shape = Shape(SHAPE.columns(), checks=[U], keys=keys[:many])
            for claim in CLAIMS[2:]:
                wants = [(copy_test(T, 1), YES), (copy_test(T, 2), YES)] + [(clash(key, 1, 2), NOT) for key in keys[:many]]
                for thing in (claim, as_lists(claim)):
                    self.assertEqual(self.case(thing, shape), (2, wants + own[claim[0]]))

    def test_tells_without_names(self):
        n, wants = self.case(("tells", T, [], ["a"]))
        self.assertEqual((n, wants[2:]), (2, [(always(), YES), (same(("a",), 1, 2), NOT)]))

    def test_new_lists(self):
        told = cases_of(SHAPE, CLAIMS[3])
        told[0][1].clear()
        told.clear()
        self.assertEqual(len(cases_of(SHAPE, CLAIMS[3])[0][1]), 3)


class HoldsTest(unittest.TestCase):
    def decide(self, shape, claim):
        """The answer, which is looked at."""
        answer = claim_holds(shape, claim)
        self.assertEqual((type(answer), len(answer)), (tuple, 2))
        self.assertIs(type(answer[1]), list)
        if answer[0] == "rows":
            self.assertIs(breaks(shape, claim, answer[1]), True)
            self.assertIs(may_stand(shape, answer[1]), True)
            self.assertEqual(len(answer[1]), cases_of(shape, claim)[0][0])
        else:
            self.assertEqual((answer[0], len(answer[1])), ("always", 1))
            (n, wants), = cases_of(shape, claim)
            self.assertIs(shows_none(copies(shape, n), wants, answer[1][0]), True)
        self.assertIs(shows_claim(shape, claim, answer), True)
        return answer

    def holds(self, shape, claim):
        self.assertEqual(self.decide(shape, claim)[0], "always", claim)

    def fails(self, shape, claim):
        word, rows = self.decide(shape, claim)
        self.assertEqual(word, "rows", claim)
        return rows

    def test_never_and_within(self):
        self.fails(SHAPE, ("never", T))
        self.holds(SHAPE, ("never", T & ~T))
        self.holds(SHAPE.with_check(compare("a", ">", 0)), ("never", T))
        self.holds(SHAPE.with_filled("a"), ("never", empty("a")))
        self.holds(SHAPE, ("within", T, compare("a", "<", 2)))
        self.assertEqual(self.fails(SHAPE, ("within", compare("a", "<", 2), T))[0]["a"], 1)
        self.fails(SHAPE, ("within", ~empty("a") | always(), T))

    def test_at_most_one(self):
        self.assertEqual(len(self.fails(SHAPE, ("at_most_one", compare("a", "==", 1)))), 2)
        one = Shape(SHAPE.columns(), keys=[(("a",), None)])
        self.holds(one, ("at_most_one", compare("a", "==", 1)))
        self.fails(one, ("at_most_one", compare("a", "<", 2)))
        self.fails(one, ("at_most_one", empty("a")))
        self.holds(one, ("at_most_one", never()))
        tested = Shape(SHAPE.columns(), keys=[(("a",), compare("c", ">", 0))])
        self.fails(tested, ("at_most_one", compare("a", "==", 1)))
        self.holds(tested, ("at_most_one", compare("a", "==", 1) & compare("c", "==", 5)))

    def test_two_equal_rows_are_two_rows(self):
        shape = Shape([("a", "number", True)], checks=[compare("a", "==", 1)])
        self.assertEqual(self.fails(shape, ("at_most_one", always())), [{"a": 1}, {"a": 1}])
        self.holds(shape, ("constant", always(), "a"))
        self.assertEqual(self.fails(shape, ("apart", always(), ["a"])), [{"a": 1}, {"a": 1}])

    def test_constant(self):
        self.holds(SHAPE, ("constant", compare("a", "==", 1), "a"))
        self.holds(SHAPE, ("constant", empty("a"), "a"))
        self.fails(SHAPE, ("constant", compare("a", "<=", 1), "a"))
        self.fails(SHAPE, ("constant", compare("a", "==", 1) | empty("a"), "a"))
        self.holds(SHAPE.with_filled("a"), ("constant", compare("a", "==", 1) | empty("a"), "a"))
        self.fails(SHAPE, ("constant", compare("a", "==", 1), "b"))

    def test_tells_and_apart(self):
        self.holds(SHAPE, ("tells", always(), ["a", "b"], ["b"]))
        self.fails(SHAPE, ("tells", always(), ["a"], ["a", "b"]))
        keyed = SHAPE.with_key((("a",), None))
        self.fails(keyed, ("tells", always(), ["a"], ["b"]))
        self.holds(keyed, ("tells", ~empty("a"), ["a"], ["b"]))
        self.holds(keyed.with_filled("a"), ("tells", always(), ["a"], ["b", "c"]))
        self.holds(SHAPE, ("tells", compare("a", "==", 1), [], ["a"]))
        self.fails(SHAPE, ("tells", T, [], ["a"]))
        rows = self.fails(keyed, ("apart", always(), ["a"]))
        self.assertEqual([row["a"] for row in rows], [None, None])
        self.holds(keyed, ("apart", ~empty("a"), ["a", "c"]))
        self.holds(keyed.with_filled("a"), ("apart", always(), ["b", "a"]))

    def test_follows(self):
        up, down = [("a", "up")], [("a", "down")]
        self.holds(SHAPE, ("follows", always(), up, up))
        rows = self.fails(SHAPE, ("follows", always(), up, down))
        self.assertIs(comes_ahead(up, rows[0], rows[1]), True)
        self.fails(SHAPE, ("follows", always(), up, [("a", "up"), ("b", "up")]))
        self.holds(SHAPE, ("follows", always(), [("a", "up"), ("b", "up")], up))
        self.holds(SHAPE, ("follows", compare("a", "==", 1), [("b", "up")], [("a", "down"), ("b", "up")]))
        checked = SHAPE.with_check(against("a", "==", "c")).with_filled("a").with_filled("c")
        self.holds(checked, ("follows", always(), up, [("c", "up")]))
        self.fails(SHAPE.with_check(against("a", "==", "c")), ("follows", always(), up, [("c", "up")]))
        keyed = SHAPE.with_key((("a",), None)).with_filled("a")
        self.holds(keyed, ("follows", always(), up, [("a", "up"), ("b", "down")]))
        self.fails(SHAPE.with_key((("a",), None)), ("follows", always(), up, [("a", "up"), ("b", "down")]))

    def test_against_all_small_tables(self):
        chance = random.Random(49)
        words = []
        for turn in range(140):
            shape = few_shape(chance, columns=chance.choice((1, 2)), checks=2, keys=2)
            tables = few_tables(shape, 2)
            for word in CLAIM_WORDS:
                claim = few_claim(chance, shape, word)
                found = self.decide(shape, claim)[0]
                words.append((word, found))
                broken = [table for table in tables if table_breaks(claim, table)]
                if found == "always":
                    self.assertEqual(broken, [], (claim, shape.checks()))
                many = 1 if word in ("never", "within") else 2
                for table in tables[:: 7 if len(tables) > 100 else 1]:
                    self.assertIs(breaks(shape, claim, table), len(table) == many and table_breaks(claim, table))
        for word, found in itertools.product(CLAIM_WORDS, ("always", "rows")):
            self.assertGreater(words.count((word, found)), 8, (word, found))


def places(names, row):
    """What stands in some columns of a row."""
    return [row[name] for name in names]


def sorted_by(order, rows):
    """Whether no later row comes ahead of an earlier one."""
    return not any(comes_ahead(order, other, row) for row, other in itertools.combinations(rows, 2))


def table_breaks(claim, table):
    """Whether a table of one or two rows breaks a claim by the words of point [47]; for follows in this order of the rows."""
    word, test = claim[0], claim[1]
    rows = [row for row in table if test.truth(row) is True]
    if word == "never":
        return bool(rows)
    if word == "within":
        return any(claim[2].truth(row) is not True for row in rows)
    if len(rows) < 2:
        return False
    one, other = rows
    if word == "at_most_one":
        return True
    if word == "constant":
        return one[claim[2]] != other[claim[2]]
    if word == "tells":
        return places(claim[2], one) == places(claim[2], other) and places(claim[3], one) != places(claim[3], other)
    if word == "apart":
        return places(claim[2], one) == places(claim[2], other)
    return sorted_by(claim[2], rows) and not sorted_by(claim[3], rows)


class ShowsTest(unittest.TestCase):
    SHAPE = Shape([("a", "number", False), ("b", "text", True)], checks=[compare("a", "<", 9)], keys=[(("b",), None)])

    def test_breaks(self):
        claim = ("constant", always(), "a")
        one, other = {"a": 1, "b": "x"}, {"a": None, "b": "y"}
        self.assertIs(breaks(self.SHAPE, claim, [one, other]), True)
        self.assertIs(breaks(self.SHAPE, list(claim), [other, one]), True)
        wrong = [
            (one, other), [one], [], [one, other, other], [one, {"a": 1, "b": "y"}], [one, {"a": 2, "b": "x"}],
            [one, {"a": 9, "b": "y"}], [one, {"a": 2, "b": None}], [one, {"a": 2}], [one, {"a": 2, "b": "y", "c": 1}],
            [one, {"a": "2", "b": "y"}], [one, None], [one, [1, "y"]], {"a": 1}, ("rows", [one, other]),
        ]
        for thing in wrong + odd_things():
            self.assertIs(breaks(self.SHAPE, claim, thing), False)
        for thing in odd_things():
            self.assertIs(breaks(self.SHAPE, claim, [one, thing]), False)

    def test_breaks_of_one_row(self):
        claim = ("never", compare("a", "<", 5))
        for rows, broken in (([{"a": 4, "b": ""}], True), ([{"a": 5, "b": ""}], False), ([{"a": None, "b": ""}], False), ([], False)):
            self.assertIs(breaks(self.SHAPE, claim, rows), broken)
        two = [{"a": 4, "b": ""}, {"a": 4, "b": "x"}]
        self.assertIs(breaks(self.SHAPE, claim, two), False)

    def test_the_order_of_the_rows(self):
        claim = ("follows", always(), [("a", "up")], [("b", "up")])
        one, other = {"a": 1, "b": "y"}, {"a": 2, "b": "x"}
        self.assertIs(breaks(self.SHAPE, claim, [one, other]), True)
        self.assertIs(breaks(self.SHAPE, claim, [other, one]), False)
        one = {"a": 2, "b": "y"}
        self.assertIs(breaks(self.SHAPE, claim, [one, other]), True)
        self.assertIs(breaks(self.SHAPE, claim, [other, one]), False)

    def test_the_right_answer_spoiled(self):
        holding = [("never", compare("a", ">", 8)), ("constant", compare("a", "==", 1), "a"), ("apart", always(), ["b"])]
        for claim in holding:
            word, (tree,) = claim_holds(self.SHAPE, claim)
            self.assertEqual(word, "always")
            wrong = [
                ["always", [tree]], ("always", (tree,)), ("always", tree), ("always", []), ("always", [tree, tree]),
                ("always", [tree], None), ("always",), ("rows", [tree]), ("Always", [tree]), ("none", [tree]), (b"always", [tree]),
                ("always", [("missed",)] if tree != ("missed",) else [("missed", 0)]), ("always", [list(tree)]), [tree], tree,
            ]
            for thing in wrong:
                self.assertIs(shows_claim(self.SHAPE, claim, thing), False)
            for thing in odd_things():
                self.assertIs(shows_claim(self.SHAPE, claim, thing), False)
                self.assertIs(shows_claim(self.SHAPE, claim, ("always", [thing])), False)
                self.assertIs(shows_claim(self.SHAPE, claim, ("always", thing)), False)
                self.assertIs(shows_claim(self.SHAPE, claim, (thing, [tree])), False)
            self.assertIs(shows_claim(self.SHAPE, claim, ("always", [tree])), True)

    def test_rows_in_the_place_of_trees(self):
        claim = ("constant", always(), "a")
        rows = [{"a": 1, "b": "x"}, {"a": None, "b": "y"}]
        self.assertIs(shows_claim(self.SHAPE, claim, ("rows", rows)), True)
        wrong = [
            ["rows", rows], ("rows", tuple(rows)), ("rows", rows[:1]), ("rows", rows + rows[:1]), ("always", rows), ("row", rows),
            ("rows", rows, None), ("rows", *rows), ("rows", [rows]), rows, ("rows", [rows[0], rows[0]]),
        ]
        for thing in wrong + odd_things():
            self.assertIs(shows_claim(self.SHAPE, claim, thing), False)
        for thing in odd_things():
            self.assertIs(shows_claim(self.SHAPE, claim, ("rows", thing)), False)

    def test_rows_do_not_show_a_claim_that_holds(self):
        claim = ("apart", always(), ["b"])
        rows = [{"a": 1, "b": "x"}, {"a": 1, "b": "x"}]
        self.assertIs(shows_claim(self.SHAPE, claim, ("rows", rows)), False)

    def test_nothing_that_is_handed_in_changes(self):
        claim, rows = ["constant", always(), "a"], [{"a": 1, "b": "x"}, {"a": None, "b": "y"}]
        breaks(self.SHAPE, claim, rows)
        shows_claim(self.SHAPE, claim, ("rows", rows))
        told = claim_holds(self.SHAPE, claim)
        self.assertEqual(claim, ["constant", always(), "a"])
        self.assertEqual(rows, [{"a": 1, "b": "x"}, {"a": None, "b": "y"}])
        told[1][0]["a"] = 77
        again = claim_holds(self.SHAPE, claim)
        self.assertNotEqual(again[1][0]["a"], 77)
        self.assertEqual(again, claim_holds(self.SHAPE, tuple(claim)))


if __name__ == "__main__":
    unittest.main()
