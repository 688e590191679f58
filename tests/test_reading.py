"""Point [38]: reading is exact."""

import random
import unittest

from tests.cases import random_test
from tests.helper import Refusals, joined, odd_things
from tests.small import deepened, few_claim, few_order, few_plan, few_rule, few_shape
from tests.test_claims import CLAIM_WORDS, tuples_alone
from tworows.errors import BadText, RowsError
from tworows.logic import Test as Condition
from tworows.logic import against, always, among, begins, compare, empty, never, sure
from tworows.plans import Plan
from tworows.shapes import Shape
from tworows.texts import claim_text, order_text, plan_text, read_claim, read_order, read_plan, read_rule, read_shape, read_test
from tworows.texts import rule_text, shape_text
from tworows.texts import test_text as text_of

READERS = [
    (read_test, text_of), (read_order, order_text), (read_claim, claim_text), (read_rule, rule_text), (read_plan, plan_text),
]
T = compare("a", "<", 1) | empty("b")
TESTS = [
    compare("a", "<", 5), compare("a", "<=", -5), compare("a", "==", 0), compare("a", "!=", 10), compare("a", ">", 10 ** 30),
    compare("abcdefgh", ">=", "x y"), compare("a", "==", ""), compare("a", "==", '"'), compare("a", "==", "\\"), compare("a", "==", '\\"\\'),
    against("a", "<", "b"), against("a", ">=", "b", more=12), against("a", "!=", "b", more=-1), among("a", [1]), among("a", [-3, 0, 3, 3]),
    among("a", list("abcdefgh")), among("a", ["", '"', ", ", ") "]), begins("a", ""), begins("a", '\\ "x" and'), empty("a"), always(), never(),
    ~empty("a"), sure(T), ~T, T & T, T | T, T & (T & always()), (T & T) & never(), T | (T | T), (T | T) | T, (T | T) & (T & T), (T & T) | (T & T),
    ~(T & ~T), sure(sure(T)), ~sure(~always()), compare("where", "<", "where a < 1"), compare("not1", "<", 1), empty("is1"),
]


def mutations(text, chance=None, many=None):
    """Texts that are a little unlike a text."""
    found = {text + "\n", "\n" + text, text + " ", " " + text, f"({text})", text + "x", text + ")", text * 2, text.upper(), text + "\x00", text[::-1]}
    for at in range(len(text)):
        found.add(text[:at] + text[at + 1 :])
        found.add(text[:at] + text[at : at + 2][::-1] + text[at + 2 :])
        if text[at] == " ":
            found.add(text[:at] + " " + text[at:])
            found.update(text[:at] + other + text[at + 1 :] for other in ("\t", "\n", "\u00a0"))
    for at in range(len(text) + 1):
        for sign in '0-+ ("\\ax,;)%\n':
            found.add(text[:at] + sign + text[at:])
            found.add(text[:at] + sign + text[at + 1 :])
    found.discard(text)
    found = sorted(found)
    return chance.sample(found, min(many, len(found))) if many else found


class Reads(unittest.TestCase, Refusals):
    def same(self, read, write, text):
        """A text that is read gives it back; all others are refused with BadText(0)."""
        try:
            thing = read(text)
        except RowsError as error:
            self.assertIs(type(error), BadText, text)
            self.assertEqual(vars(error), {"line": 0}, text)
            return False
        self.assertEqual(write(thing), text)
        return True

    def none(self, read, *texts):
        for text in texts:
            self.refused(BadText, {"line": 0}, read, text)


class EveryTest(Reads):
    def test_no_strings(self):
        for thing in odd_things() + [5, {}, T, Plan([]), Shape([("a", "number", False)])]:
            for read in (read_test, read_order, read_claim, read_rule, read_plan, read_shape):
                self.refused(BadText, {"line": -1}, read, thing)

    def test_strange_strings(self):
        for read, _ in READERS:
            if read != read_plan:
                self.none(read, "")
            self.none(read, " ", "\n", "x", "(", ")", "()", '"', "\\", "not", "sure", "and", "a", "a ", "5", "\ud800", "\u0661", "\x00")

    def test_long_and_deep_texts(self):
        deep = ["(" * 1500 + "a < 1" + ")" * 1500, "not " * 1500 + "a < 1", "sure " * 1500 + "always", "(" * 100000, "not " * 100000]
        deep += ["not (" * 1500 + "a < 1 and b < 1" + ")" * 1500, "a < 1 and " * 5000 + "a < 1", "a < 1 or (" * 1500 + "a < 1" + ")" * 1500]
        deep += ["not " * 13 + "a < 1", " or ".join(["a < 1"] * 25), " or ".join(["a < 1"] * 14), "a in (" + ", ".join(["1"] * 9) + ")"]
        for text in deep:
            self.none(read_test, text)
            self.none(read_claim, f"never where {text}", f"always {text} where always", f"always always where {text}")
            self.none(read_rule, f"check {text}", f"key a where {text}")
            self.none(read_plan, f"keep {text}", f"first; keep {text}; flip")
        self.none(read_order, "a up, " * 5000 + "a up", "a" * 10000)
        self.none(read_claim, "apart (" + "a, " * 5000 + "a) where always")
        self.none(read_plan, "first; " * 5000 + "first", "first; " * 5 + "first")
        long = compare("a", "<", "x" * 100000)
        self.assertEqual(read_test(text_of(long)), long)


class ReadTestTest(Reads):
    def test_each_kind(self):
        for test in TESTS:
            told = read_test(text_of(test))
            self.assertIs(type(told), Condition)
            self.assertEqual(told, test)
            self.assertEqual(text_of(told), text_of(test))

    def test_by_chance(self):
        chance = random.Random(38)
        for _ in range(800):
            test = random_test(chance, ["a", "b"], ["c", "d"], chance.randint(0, 4))
            self.assertEqual(read_test(text_of(test)), test)

    def test_the_largest_and_the_deepest(self):
        wide = joined([compare("a", "<", at) for at in range(24)])
        surely = compare("a", "<", 1)
        for _ in range(12):
            surely = sure(surely)
        for test in (wide, ~wide, deepened(T, 11), deepened(compare("a", "<", 1), 12), surely):
            self.assertEqual(read_test(text_of(test)), test)
            for claim in (("never", test), ("within", T, test), ("within", test, T), ("apart", test, ("a",)), ("tells", test, (), ("a",))):
                self.assertEqual(read_claim(claim_text(claim)), claim)
            for rule in (("check", test), ("key", (("a",), test))):
                self.assertEqual(read_rule(rule_text(rule)), rule)
            self.assertEqual(read_plan(plan_text(Plan([("flip",), ("keep", test)]))), Plan([("flip",), ("keep", test)]))
            shape = Shape([("a", "number", False), ("b", "text", False)], checks=[test], keys=[(("a",), test)])
            self.assertEqual(read_shape(shape_text(shape)), shape)
        chain = T
        for _ in range(11):
            chain = T & chain if chain.kind() == "or" else compare("b", "<", 1) | chain
            if len(chain.atoms()) > 22:
                break
        self.assertEqual(read_test(text_of(chain)), chain)
        right = compare("a", "<", 0)
        for at in range(12):
            right = compare("a", "<", at) & right
        self.assertEqual(text_of(right).count("("), 11)
        self.assertEqual(read_test(text_of(right)), right)

    def test_all_small_mistakes(self):
        for test in TESTS:
            for text in mutations(text_of(test)):
                self.same(read_test, text_of, text)

    def test_numbers(self):
        for digits in ("1" + "0" * 30, "9" * 1000):
            for text in (f"a < {digits}", f"a < -{digits}", f"a < b + {digits}", f"a < b - {digits}", f"a in ({digits}, -{digits})"):
                self.assertEqual(text_of(read_test(text)), text)
        for digits in ("9" * 1001, "1" + "0" * 1000, "1" * 5000, "1" * 100000, "0" * 5000):
            self.none(read_test, f"a < {digits}", f"a < -{digits}", f"a < b + {digits}", f"a < b - {digits}", f"a in (1, {digits})")
        for wrong in ("05", "00", "-0", "+5", "-05", "- 5", "--5", "5.0", "1e3", "1_000", "0x5", "", "-", "5-", " 5", "\u0665", "\u00b2"):
            self.none(read_test, f"a < {wrong}", f"a in ({wrong})", f"a in (1, {wrong})")
        self.none(read_test, "a < b + 0", "a < b - 0", "a < b + -1", "a < b - -1", "a < b + 01", "a < b + +1", "a < b+1", "a < b +1", "a < b + ")

    def test_spaces_and_brackets(self):
        self.none(
            read_test, "a<5", "a <5", "a< 5", "a  < 5", "a <  5", "(a < 5)", "((a < 5))", "not (a < 5)", "sure (a < 5)", "not(a < 5 and b < 5)",
            "not  a < 5", "(not a < 5)", "(a < 5) and b < 5", "(a < 5 and b < 5) and c < 5", "(a < 5 and b < 5) or c < 5",
            "a < 5 or (b < 5 and c < 5)", "(a < 5 or b < 5) or c < 5", "a < 5 and(b < 5 or c < 5)", "not not(a < 5 or b < 5)",
            "a < 5  and b < 5", "a < 5 AND b < 5", "a < 5 & b < 5", "a < 5 and", "and a < 5", "a < 5 and or b < 5", "a < 5 b < 5",
            "a in(1)", "a in (1,2)", "a in ( 1)", "a in (1 )", "a in ()", "a in (1, )", "a in 1", "a is  empty", "a is Empty", "a is not empty",
            "a begins x", "a begins 5", "a begins  \"\"", "a = 5", "a === 5", "a <> 5", "a =< 5", "a ! 5", "a not in (1)", "5 < a", '"x" < a',
            "a < a", "a < a + 1", 'a < b + "x"', "a < None", "a == True", "always()", "always always", "not", "sure", "not ", "not always ",
            "(a < 5", "a < 5)", "(a < 5 or b < 5 and c < 5", "not (a < 5 and b < 5", ")(",
        )

    def test_names(self):
        self.none(
            read_test, "A < 5", "abcdefghi < 5", "1a < 5", "a_b < 5", "and < 5", "or is empty", "not < 5", "sure < 5", "in in (1)", "is is empty",
            "empty is empty", "begins begins \"\"", "always < 5", "never is empty", "a < and", "a < abcdefghi", "a < not", " < 5", "a. < 5", "\u00e9 < 5",
        )

    def test_quotes_and_backslashes(self):
        for text in ('a == "\\\\"', 'a == "\\""', 'a == "\\\\\\""', 'a == "and or not"', 'a in ("\\"", "\\\\")', 'a begins "\\\\\\\\"', "a == \"'\""):
            self.assertEqual(text_of(read_test(text)), text)
        self.none(
            read_test, 'a == "', 'a == "\\"', 'a == "x', 'a == x"', 'a == "\\x"', 'a == "\\', 'a == "\\\\\\"', 'a == """', 'a == "x" ', "a == 'x'",
            'a == "\\n"', 'a == "%"', 'a == "\n"', 'a == "\t"', 'a == "\u00e9"', 'a == "\x7f"', 'a == "x"y', 'a == "x""y"', 'a begins "', 'a in ("x)',
        )


class ReadOrderTest(Reads):
    ORDERS = [(("a", "up"),), (("a", "down"), ("b", "up")), (("up", "down"), ("down", "up"), ("abcdefgh", "down"))]

    def test_each(self):
        for order in self.ORDERS:
            told = read_order(order_text(order))
            self.assertEqual(told, order)
            self.assertTrue(tuples_alone(told) and all(type(part) is tuple for part in told))

    def test_all_small_mistakes(self):
        for order in self.ORDERS:
            for text in mutations(order_text(order)):
                self.same(read_order, order_text, text)
        self.none(
            read_order, "a", "a up,", "a up, ", "a up,b up", "a up , b up", "a up, a up", "a up, a down", "a  up", "a Up", "a up b up", "(a up)",
            "a up, b up, c up, d up", "up", "up up up", "and up", "A up", "a upp", "a sideways",
        )


class ReadClaimTest(Reads):
    CLAIMS = [
        ("never", T), ("within", T, T & T), ("within", always(), never()), ("at_most_one", never()), ("constant", T, "a"),
        ("constant", empty("constant"), "where"), ("tells", T, (), ("a",)), ("tells", T, ("a", "where"), ("b", "c", "tell")),
        ("apart", T, ("a",)), ("apart", compare("a", "==", ") where ("), ("b", "a", "order")),
        ("follows", T, (("a", "up"),), (("b", "down"), ("a", "up"))), ("within", empty("where"), compare("where", "==", " where ")),
    ]

    def test_each(self):
        for claim in self.CLAIMS:
            told = read_claim(claim_text(claim))
            self.assertEqual(told, claim)
            self.assertTrue(tuples_alone(told))

    def test_by_chance(self):
        chance = random.Random(381)
        for _ in range(300):
            shape = few_shape(chance, columns=4)
            claim = few_claim(chance, shape, chance.choice(CLAIM_WORDS))
            self.assertEqual(read_claim(claim_text(claim)), claim)

    def test_all_small_mistakes(self):
        for claim in self.CLAIMS:
            for text in mutations(claim_text(claim)):
                self.same(read_claim, claim_text, text)

    def test_other_mistakes(self):
        self.none(
            read_claim, "never", "never where", "never where ", "Never where always", "never when always", "never  where always", "neverwhere always",
            "always where always", "always always", "always always where", "at most one", "at most two where always", "at_most_one where always",
            "constant where always", "constant a, b where always", "constant (a) where always", "apart a where always", "apart () where always",
            "apart (a, a) where always", "apart (a, b, c, d) where always", "apart (a,b) where always", "apart (a ,b) where always",
            "apart (and) where always", "tell (a) where always", "(a) tell () where always", "() tell () where always", "(a) tell (a, a) where always",
            "(a) tells (b) where always", "(a)tell(b) where always", "(a, b, c, d) tell (a) where always", "( ) tell (a) where always",
            "order () gives (a up) where always", "order (a up) gives () where always", "order (a up) give (a up) where always",
            "order (a) gives (a up) where always", "order (a up, a up) gives (a up) where always", "order a up gives a up where always",
            "order (a up) gives (a up)", "never where always where always", "never where always; never where always", "always",
        )


class ReadRuleTest(Reads):
    RULES = [
        ("check", T), ("check", always()), ("filled", "a"), ("filled", "filled"), ("key", (("a",), None)), ("key", (("a", "b", "c"), None)),
        ("key", (("a",), T)), ("key", (("where", "key"), empty("where"))), ("key", (("where",), None)),
    ]

    def test_each(self):
        for rule in self.RULES:
            told = read_rule(rule_text(rule))
            self.assertEqual(told, rule)
            self.assertTrue(tuples_alone(told))
            self.assertEqual(len(told), 2)

    def test_by_chance(self):
        chance = random.Random(382)
        for _ in range(300):
            rule = few_rule(chance, few_shape(chance, columns=4))
            self.assertEqual(read_rule(rule_text(rule)), rule)

    def test_all_small_mistakes(self):
        for rule in self.RULES:
            for text in mutations(rule_text(rule)):
                self.same(read_rule, rule_text, text)
        self.none(
            read_rule, "check", "check ", "check a", "filled", "filled ", "filled A", "filled and", "filled a, b", "key", "key ", "key a, a", "key a, b, c, d",
            "key a where", "key a where ", "key (a)", "key a,b", "key a b", "key a, where a < 1", "column a number", "key and", "keys a", "filled a where always",
            "check always where always", "key where always",
        )


class ReadPlanTest(Reads):
    PLANS = [
        [], [("keep", T)], [("sort", (("a", "up"), ("b", "down")))], [("distinct", ())], [("distinct", ("a", "b", "c"))], [("first",)], [("flip",)],
        [("distinct", ()), ("distinct", ("first",)), ("first",), ("flip",), ("keep", compare("a", "==", "; flip"))],
        [("sort", (("sort", "up"),)), ("keep", empty("keep")), ("distinct", ("distinct",))],
    ]

    def test_each(self):
        for steps in self.PLANS:
            told = read_plan(plan_text(Plan(steps)))
            self.assertIs(type(told), Plan)
            self.assertEqual(told, Plan(steps))
            self.assertTrue(all(tuples_alone(step) for step in told.steps()))
        self.assertEqual(read_plan(""), Plan([]))

    def test_by_chance(self):
        chance = random.Random(383)
        for _ in range(200):
            plan = few_plan(chance, few_shape(chance, columns=4))
            self.assertEqual(read_plan(plan_text(plan)), plan)

    def test_all_small_mistakes(self):
        for steps in self.PLANS:
            for text in mutations(plan_text(Plan(steps))):
                self.same(read_plan, plan_text, text)
        self.none(
            read_plan, " ", ";", "; ", "first;", "first; ", "; first", "first;flip", "first ; flip", "first, flip", "first; ; flip", "First", "firsts",
            "keep", "keep ", "sort", "sort a", "sort a up, a up", "distinct ", "distinct a, a", "distinct a, b, c, d", "distinct (a)", "distinct ()",
            "distinct and", "first a", "flip ", "flip flip", "first; flip; first; flip; first; flip", "keep always and", "sort a up; keep",
        )


class ReadShapeTest(Reads):
    SHAPES = [
        Shape([("a", "number", False)]),
        Shape([("a", "number", True), ("filled", "text", True), ("number", "text", False)]),
        Shape(
            [("b", "text", True), ("a", "number", False), ("c", "number", False)],
            checks=[T, against("a", ">=", "c", more=-2)], keys=[(("a",), None), (("c", "a", "b"), ~T), (("b",), None)],
        ),
        Shape([("a", "number", False), ("b", "text", False)], keys=[(["a"], always())]),
        Shape([(f"c{at}", "number", at == 3) for at in range(12)], checks=[never()] * 9, keys=[(["c3"], None)] * 9),
    ]

    def test_each(self):
        for shape in self.SHAPES:
            told = read_shape(shape_text(shape))
            self.assertIs(type(told), Shape)
            self.assertEqual(told, shape)

    def test_by_chance(self):
        chance = random.Random(384)
        for _ in range(200):
            shape = few_shape(chance, columns=4, checks=3, keys=3)
            self.assertEqual(read_shape(shape_text(shape)), shape)

    def prefix(self, lines):
        """The least number of a line such that the lines up to it are the text of no shape, or None."""
        for at in range(len(lines)):
            text = "\n".join(lines[: at + 1])
            try:
                shape = read_shape(text)
            except BadText as error:
                self.assertEqual(error.line, at, text)
                return at
            self.assertEqual(shape_text(shape), text)
        return None

    def fault(self, text, at):
        self.refused(BadText, {"line": at}, read_shape, text)
        self.assertEqual(self.prefix(text.split("\n")), at)

    def test_all_small_mistakes(self):
        chance = random.Random(385)
        for shape in self.SHAPES:
            for text in mutations(shape_text(shape), chance, 1500):
                at = self.prefix(text.split("\n"))
                if at is None:
                    self.assertEqual(shape_text(read_shape(text)), text)
                else:
                    self.refused(BadText, {"line": at}, read_shape, text)

    def test_lines_left_out_repeated_moved_and_wrong(self):
        lines = shape_text(self.SHAPES[2]).split("\n")
        # The checks and keys need the columns; each line may stand but once, but for checks and keys.
        for at in range(len(lines)):
            for text in (lines[:at] + lines[at + 1 :], lines[:at] + [lines[at]] + lines[at:], lines[:at] + [""] + lines[at:]):
                self.prefix(text)
            for other in range(len(lines)):
                self.prefix(lines[:other] + [lines[at]] + lines[other:])
            self.fault("\n".join(lines[:at] + ["nonsense"] + lines[at + 1 :]), at)
            self.fault("\n".join(lines[:at] + [""] + lines[at:]), at)
            self.fault("\n".join(lines[:at] + [" " + lines[at]] + lines[at + 1 :]), at)
            self.fault("\n".join(lines[:at] + [lines[at] + "\r"] + lines[at + 1 :]), at)
            self.fault("\n".join(lines[:at] + ["filled a"] + lines[at:]), at)

    def test_the_first_line(self):
        for text in ("", "\n", "check always", "key a", "column", "column a", "column a numbers", "column a number  ", "columns a number", "\ncolumn a number"):
            self.fault(text, 0)
        for text in ("column A number", "column and text", "column a number Filled", "column a number filled filled", "column  a number", "column a  number"):
            self.fault(text, 0)

    def test_further_lines(self):
        one = "column a number"
        for line in ("", one, "column a text", "check b < 1", "check a < \"x\"", "check (a < 1)", "key b", "key a, a", "key a where b is empty", "filled a"):
            self.fault(f"{one}\n{line}", 1)
            self.fault(f"{one}\n{line}\n", 1)
            self.fault(f"{one}\n{line}\nnonsense\n\n", 1)
        self.fault(one + "\n", 1)
        self.fault(f"{one}\ncheck always\ncolumn b number", 2)
        self.fault(f"{one}\nkey a\ncolumn b number", 2)
        self.fault(f"{one}\nkey a\ncheck always", 2)
        self.fault(f"{one}\ncheck b < 1\ncolumn b number", 1)
        self.fault(f"{one}\ncheck begins\ncolumn b number", 1)
        self.fault(f"{one}\ncolumn b text\ncheck a < b", 2)
        self.fault(f"{one}\ncolumn b text\ncheck a begins \"x\"", 2)

    def test_what_the_whole_shape_refuses(self):
        columns = [f"column c{at} number" for at in range(13)]
        self.fault("\n".join(columns), 12)
        self.assertEqual(len(read_shape("\n".join(columns[:12])).names()), 12)
        self.fault("\n".join(columns[:2] + ["check always"] * 10), 11)
        self.fault("\n".join(columns[:2] + ["key c0"] * 10), 11)
        self.fault("\n".join(columns[:2] + ["check always"] * 9 + ["key c0, c1"] * 9 + ["key c0"]), 20)
        self.fault("column a number\n" * 3000, 1)
        self.fault("column a number" + "\n" * 100000, 1)

    def test_what_is_read_is_new(self):
        text = shape_text(self.SHAPES[2])
        read_shape(text).checks().clear()
        self.assertEqual(read_shape(text), self.SHAPES[2])


class OneTextTest(Reads):
    def test_orders_claims_rules_and_plans_of_few_columns(self):
        chance = random.Random(386)
        for read, write in READERS[1:]:
            for _ in range(60):
                shape = few_shape(chance, columns=3)
                thing = {
                    read_order: lambda: few_order(chance, shape),
                    read_claim: lambda: few_claim(chance, shape, chance.choice(CLAIM_WORDS)),
                    read_rule: lambda: few_rule(chance, shape),
                    read_plan: lambda: few_plan(chance, shape),
                }[read]()
                for text in mutations(write(thing), chance, 60):
                    self.same(read, write, text)


if __name__ == "__main__":
    unittest.main()
