"""Points [72] to [76]: the class Desk."""

import random
import unittest

from tests.helper import Refusals, joined, odd_things
from tests.small import WORDS, few_claim, few_plan, few_rule, few_shape, large_shapes
from tests.test_claims import CLAIM_WORDS, as_lists
from tworows.desk import Desk
from tworows.errors import BadClaim, BadOrder, BadPlan, BadShape, BadTest, BadText, RowsError, TooMany
from tworows.logic import always, among, compare, empty, never
from tworows.moves import cheapest, moves
from tworows.pairs import claim_holds, need_claim
from tworows.plans import Plan
from tworows.rules import bare, own_rules, with_rules
from tworows.shapes import Shape
from tworows.texts import claim_text, plan_text, read_plan, rule_text

T, U = compare("a", "<", 1), empty("b")
COLUMNS = [("a", "number", False), ("b", "text", False), ("c", "number", True)]
SHAPE = Shape(COLUMNS, checks=[T], keys=[(("a",), None)])
PLAIN = Shape(COLUMNS)
NEVER_U = ("never", U)
ONE_A = ("at_most_one", compare("a", "==", 0))
HIGH_A = ("never", compare("a", ">", 5))


class Desks(unittest.TestCase, Refusals):
    def unchanged(self, desk, kind, told, call, *given):
        before = desk.shape(), desk.watched()
        self.refused(kind, told, call, *given)
        self.assertEqual((desk.shape(), desk.watched()), before)


class MadeTest(Desks):
    def test_shape(self):
        self.assertEqual(Desk(SHAPE).shape(), SHAPE)
        self.assertEqual(Desk(SHAPE).watched(), [])

    def test_a_large_shape(self):
        for shape in large_shapes():
            self.refused(BadClaim, {"why": "shape"}, Desk, shape)


class RuleTest(Desks):
    def test_each_kind_of_rule(self):
        for rule in (("check", U), ("key", (("b",), T)), ("key", (("c", "a"), None)), ("filled", "b"), ("filled", "c")):
            for thing in (rule, list(rule), as_lists(rule)):
                desk = Desk(SHAPE)
                self.assertEqual(desk.add_rule(thing), [])
                self.assertEqual(desk.shape(), with_rules(SHAPE, [rule]))

    def test_dropping(self):
        full = Shape(COLUMNS, checks=[T, U, ~T], keys=[(("a",), None), (("b",), None), (("c",), None)])
        for name in own_rules(full):
            desk = Desk(full)
            self.assertEqual(desk.drop_rule(name), [])
            self.assertEqual(desk.shape(), bare(full, [other for other in own_rules(full) if other != name]))

    def test_later_rules_move_up(self):
        desk = Desk(Shape(COLUMNS, checks=[T, U, ~T]))
        desk.drop_rule(("check", 0))
        self.assertEqual(desk.shape().checks(), [U, ~T])
        desk.drop_rule(("check", 0))
        self.assertEqual(desk.shape().checks(), [~T])
        self.unchanged(desk, BadShape, {"why": "rules", "at": 0}, desk.drop_rule, ("check", 1))

    def test_errors_of_add(self):
        desk = Desk(SHAPE)
        for thing in odd_things() + [("check", empty("z")), ("filled", "z"), ("key", ([], None)), "check always", ("check", T, T), T, ("x", T)]:
            self.unchanged(desk, BadShape, {"why": "rules", "at": 0}, desk.add_rule, thing)
        for rule in (("check", joined([T] * 9)), ("key", (["b"], joined([T] * 9)))):
            self.unchanged(desk, BadClaim, {"why": "shape"}, desk.add_rule, rule)
        desk.add_rule(("check", T))
        desk.add_rule(("check", T))
        self.unchanged(desk, BadClaim, {"why": "shape"}, desk.add_rule, ("check", T))
        self.assertEqual(len(desk.shape().checks()), 3)

    def test_errors_of_drop(self):
        desk = Desk(SHAPE)
        for thing in odd_things() + [
            ["check", 0], ("check", 1), ("check", True), ("check", False), ("check", "0"), ("key", 1), ("key", -1), ("filled", "a"), ("filled", "z"), ("filled", 0),
            "check 0", ("check",), ("check", 0, 0), T, ("Key", 0),
        ]:
            self.unchanged(desk, BadShape, {"why": "rules", "at": 0}, desk.drop_rule, thing)


class ChangesTest(Desks):
    def test_several_claims_in_the_order_of_watching(self):
        desk = Desk(SHAPE)
        self.assertEqual([desk.watch(claim) for claim in (HIGH_A, NEVER_U, ONE_A, ("within", T, T))], [True, False, True, True])
        self.assertEqual(desk.drop_rule(("check", 0)), [(0, False)])
        self.assertEqual(desk.drop_rule(("key", 0)), [(2, False)])
        self.assertEqual(desk.add_rule(("filled", "b")), [(1, True)])
        self.assertEqual(desk.add_rule(("check", compare("a", "==", 5))), [(0, True), (2, True)])
        self.assertEqual(desk.watched(), [(HIGH_A, True), (NEVER_U, True), (ONE_A, True), (("within", T, T), True)])

    def test_two_at_once(self):
        desk = Desk(PLAIN)
        for claim in (("never", T), ("never", U), ("never", empty("a") & T), ("never", compare("a", "<", 0))):
            desk.watch(claim)
        self.assertEqual(desk.add_rule(("check", compare("a", ">", 5))), [(0, True), (3, True)])
        self.assertEqual(desk.undo(), [(0, False), (3, False)])
        self.assertEqual(desk.redo(), [(0, True), (3, True)])

    def test_changes_are_new_lists(self):
        desk = Desk(PLAIN)
        desk.watch(NEVER_U)
        told = desk.add_rule(("filled", "b"))
        self.assertEqual((type(told), type(told[0])), (list, tuple))
        told.clear()
        desk.watched().clear()
        self.assertEqual(desk.watched(), [(NEVER_U, True)])
        self.assertEqual(desk.undo(), [(0, False)])


class UndoTest(Desks):
    def test_to_the_first_and_the_last_shape_and_beyond(self):
        desk = Desk(PLAIN)
        shapes = [PLAIN]
        for rule in (("check", U), ("filled", "a"), ("key", (["a"], None)), ("filled", "c")):
            desk.add_rule(rule)
            shapes.append(desk.shape())
        desk.drop_rule(("check", 0))
        shapes.append(desk.shape())
        for _ in range(2):
            for shape in shapes[-2::-1]:
                self.assertEqual(desk.undo(), [])
                self.assertEqual(desk.shape(), shape)
            for _ in range(3):
                self.assertIsNone(desk.undo())
                self.assertEqual(desk.shape(), PLAIN)
            for shape in shapes[1:]:
                self.assertEqual(desk.redo(), [])
                self.assertEqual(desk.shape(), shape)
            for _ in range(3):
                self.assertIsNone(desk.redo())
                self.assertEqual(desk.shape(), shapes[-1])

    def test_a_new_deed_forgets_what_could_be_done_again(self):
        for deed in ("add", "drop"):
            desk = Desk(SHAPE)
            desk.add_rule(("filled", "a"))
            desk.add_rule(("filled", "b"))
            desk.undo()
            desk.undo()
            desk.redo()
            if deed == "add":
                desk.add_rule(("check", U))
            else:
                desk.drop_rule(("check", 0))
            left = desk.shape()
            self.assertIsNone(desk.redo())
            self.assertEqual(desk.undo(), [])
            self.assertEqual(desk.shape(), SHAPE.with_filled("a"))
            self.assertEqual(desk.undo(), [])
            self.assertEqual(desk.shape(), SHAPE)
            self.assertEqual((desk.redo(), desk.redo(), desk.redo()), ([], [], None))
            self.assertEqual(desk.shape(), left)

    def test_an_add_that_changes_nothing_is_a_step(self):
        desk = Desk(SHAPE)
        desk.add_rule(("filled", "b"))
        desk.undo()
        self.assertEqual(desk.add_rule(("filled", "c")), [])
        self.assertEqual(desk.shape(), SHAPE)
        self.assertIsNone(desk.redo())
        self.assertEqual(desk.undo(), [])
        self.assertIsNone(desk.undo())
        self.assertEqual(desk.redo(), [])

    def test_a_refused_deed_is_no_step(self):
        desk = Desk(SHAPE)
        desk.add_rule(("filled", "b"))
        desk.undo()
        for call, thing in ((desk.add_rule, None), (desk.add_rule, ("check", joined([T] * 9))), (desk.drop_rule, ("check", 5)), (desk.watch, None)):
            with self.assertRaises(RowsError):
                call(thing)
        self.assertEqual(desk.redo(), [])
        self.assertEqual(desk.shape(), SHAPE.with_filled("b"))
        self.assertEqual(desk.undo(), [])
        self.assertIsNone(desk.undo())

    def test_watching_is_not_undone(self):
        desk = Desk(PLAIN)
        desk.add_rule(("filled", "b"))
        self.assertIs(desk.watch(NEVER_U), True)
        self.assertEqual(desk.undo(), [(0, False)])
        self.assertEqual(desk.watched(), [(NEVER_U, False)])
        self.assertEqual(desk.redo(), [(0, True)])
        self.assertEqual(desk.watched(), [(NEVER_U, True)])

    def test_two_desks(self):
        one, other = Desk(SHAPE), Desk(SHAPE)
        one.add_rule(("filled", "a"))
        one.watch(NEVER_U)
        self.assertEqual((other.shape(), other.watched(), other.undo()), (SHAPE, [], None))


class WatchTest(Desks):
    SIX = [("never", compare("a", "==", at)) for at in range(-2, 4)]

    def test_watched(self):
        desk = Desk(SHAPE)
        for claim in (("tells", T, ["a"], ["b"]), ["follows", T, [["a", "up"]], [["b", "down"]]], NEVER_U):
            self.assertIs(desk.watch(claim), claim_holds(SHAPE, claim)[0] == "always")
        told = desk.watched()
        self.assertIs(type(told), list)
        self.assertEqual([claim for claim, _ in told], [
            ("tells", T, ("a",), ("b",)), ("follows", T, (("a", "up"),), (("b", "down"),)), NEVER_U,
        ])
        for claim, holds in told:
            self.assertIs(type(claim), tuple)
            self.assertIs(holds, claim_holds(SHAPE, claim)[0] == "always")

    def test_a_claim_that_is_watched_again(self):
        desk = Desk(SHAPE)
        for claim in self.SIX:
            desk.watch(claim)
        for claim in self.SIX[::-1]:
            self.assertIs(desk.watch(list(claim)), claim_holds(SHAPE, claim)[0] == "always")
        self.assertEqual([claim for claim, _ in desk.watched()], self.SIX)
        desk.drop_rule(("check", 0))
        self.assertIs(desk.watch(self.SIX[5]), False)

    def test_six_and_seven(self):
        desk = Desk(SHAPE)
        for claim in self.SIX:
            desk.watch(claim)
        self.unchanged(desk, TooMany, {"limit": 6}, desk.watch, NEVER_U)
        self.unchanged(desk, TooMany, {"limit": 6}, desk.watch, ("never", self.huge()))
        self.unchanged(desk, BadTest, {"why": "column"}, desk.watch, ("never", empty("z")))

    def huge(self):
        return joined([among("a", [100 * at + 2 * value for value in range(8)]) for at in range(4)])

    def test_errors(self):
        desk = Desk(SHAPE)
        wide = joined([T] * 9)
        for kind, told, claim in [
            (BadClaim, {"why": "form"}, None), (BadClaim, {"why": "form"}, ("never",)), (BadTest, {"why": "part"}, ("never", None)),
            (BadClaim, {"why": "names"}, ("apart", T, [])), (BadOrder, {"at": -1}, ("follows", T, [], [])), (BadTest, {"why": "column"}, ("never", empty("z"))),
            (BadClaim, {"why": "large"}, ("never", wide)), (BadClaim, {"why": "column"}, ("constant", T, "z")),
            (BadOrder, {"at": 0}, ("follows", T, [("z", "up")], [("a", "up")])), (TooMany, {"limit": 60}, ("never", self.huge())),
        ]:
            self.unchanged(desk, kind, told, desk.watch, claim)
            self.unchanged(desk, kind, told, desk.asked, claim)
        for thing in odd_things():
            self.unchanged(desk, BadClaim, {"why": "form"}, desk.watch, thing)
            self.unchanged(desk, BadClaim, {"why": "form"}, desk.asked, thing)

    def test_asked(self):
        desk = Desk(SHAPE)
        for claim in self.SIX + [NEVER_U, ONE_A]:
            self.assertEqual(desk.asked(claim), claim_holds(SHAPE, claim))
        desk.add_rule(("filled", "b"))
        self.assertEqual(desk.asked(NEVER_U), claim_holds(SHAPE.with_filled("b"), NEVER_U))
        self.assertEqual(desk.watched(), [])


class LineTest(Desks):
    def test_add_drop_undo_and_redo(self):
        desk = Desk(SHAPE)
        u, a = claim_text(NEVER_U), claim_text(ONE_A)
        self.assertEqual(desk.do_line(f"watch {u}"), ["breaks"])
        self.assertEqual(desk.do_line(f"watch {a}"), ["holds"])
        for line, told in [
            ("undo", ["nothing"]), ("redo", ["nothing"]), ("add filled b", [f"holds: {u}"]), ("drop key 0", [f"breaks: {a}"]), ("undo", [f"holds: {a}"]),
            ("undo", [f"breaks: {u}"]), ("undo", ["nothing"]), ("redo", [f"holds: {u}"]), ("redo", [f"breaks: {a}"]), ("redo", ["nothing"]),
            ("add key a where a < 5", [f"holds: {a}"]), ("drop filled b", [f"breaks: {u}"]), ("add check b is empty or not b is empty", []),
            ("add check not b is empty", [f"holds: {u}"]), ("drop check 2", [f"breaks: {u}"]), ("drop check 1", []), ("drop check 0", []),
            ("add check never", [f"holds: {u}"]),
        ]:
            self.assertEqual(desk.do_line(line), told, line)
        self.assertEqual(desk.shape(), Shape(COLUMNS, checks=[never()], keys=[(("a",), compare("a", "<", 5))]))

    def test_several_changes(self):
        desk = Desk(PLAIN)
        for claim in (("never", U), HIGH_A, ("never", compare("b", "==", ""))):
            desk.watch(claim)
        told = desk.do_line("add check never")
        self.assertEqual(told, ["holds: never where b is empty", "holds: never where a > 5", 'holds: never where b == ""'])
        self.assertEqual(desk.do_line("undo"), ["breaks: never where b is empty", "breaks: never where a > 5", 'breaks: never where b == ""'])

    def test_watch_and_ask(self):
        desk = Desk(SHAPE)
        for claim in (NEVER_U, ONE_A, HIGH_A, ("tells", T, (), ("a", "b")), ("follows", T, (("a", "up"),), (("a", "up"),)), ("within", T, T)):
            holds = claim_holds(SHAPE, claim)[0] == "always"
            self.assertEqual(desk.do_line(f"ask {claim_text(claim)}"), ["holds" if holds else "breaks"])
        self.assertEqual(desk.watched(), [])
        for claim in (NEVER_U, ONE_A):
            self.assertEqual(desk.do_line(f"watch {claim_text(claim)}"), ["holds" if claim == ONE_A else "breaks"])
        self.assertEqual(desk.watched(), [(NEVER_U, False), (ONE_A, True)])

    def steps_from(self, shape, lines):
        """Each line is a plan that comes of the one ahead by one move."""
        for one, other in zip(lines, lines[1:]):
            self.assertIn(other, [plan_text(end) for _, _, end in moves(shape, read_plan(one))])

    def test_plan(self):
        desk = Desk(SHAPE)
        self.assertEqual(desk.do_line("plan "), [""])
        self.assertEqual(desk.do_line("plan flip"), ["flip"])
        self.assertEqual(desk.do_line("plan keep always"), ["keep always", ""])
        chance = random.Random(76)
        lengths = set()
        for _ in range(40):
            shape = few_shape(chance)
            plan = few_plan(chance, shape, most=4)
            told = Desk(shape).do_line(f"plan {plan_text(plan)}")
            self.assertEqual(told[0], plan_text(plan))
            self.assertEqual(len(read_plan(told[-1])), cheapest(shape, plan, {word: 1 for word in WORDS})[0])
            self.steps_from(shape, told)
            lengths.add(len(told))
        self.assertGreater(len(lengths), 2)

    def test_the_errors_of_the_deeds(self):
        desk = Desk(SHAPE)
        huge = " or ".join(f"a in ({', '.join(str(100 * at + 2 * value) for value in range(8))})" for at in range(4))
        wide = " or ".join(["a < 1"] * 9)
        for kind, told, line in [
            (BadShape, {"why": "rules", "at": 0}, "add filled z"), (BadShape, {"why": "rules", "at": 0}, "add check z is empty"),
            (BadShape, {"why": "rules", "at": 0}, "add key a, z"), (BadClaim, {"why": "shape"}, f"add check {wide}"),
            (BadShape, {"why": "rules", "at": 0}, "drop check 1"), (BadShape, {"why": "rules", "at": 0}, "drop check 10"),
            (BadShape, {"why": "rules", "at": 0}, "drop key 1"), (BadShape, {"why": "rules", "at": 0}, "drop key 99999999999999999999"),
            (BadShape, {"why": "rules", "at": 0}, "drop filled a"), (BadShape, {"why": "rules", "at": 0}, "drop filled zzz"),
            (BadShape, {"why": "rules", "at": 0}, "drop check " + "9" * 5000), (BadTest, {"why": "column"}, "watch never where z is empty"),
            (BadTest, {"why": "column"}, "ask never where a < \"x\""), (BadClaim, {"why": "column"}, "watch constant z where always"),
            (BadOrder, {"at": 1}, "ask order (a up, z up) gives (a up) where always"), (BadClaim, {"why": "large"}, f"watch never where {wide}"),
            (TooMany, {"limit": 60}, f"watch never where {huge}"), (TooMany, {"limit": 60}, f"ask never where {huge}"),
            (BadPlan, {"why": "shape", "at": 1}, "plan flip; sort z up"), (BadPlan, {"why": "large", "at": 0}, f"plan keep {wide}"),
            (TooMany, {"limit": 60}, f"plan keep {huge}"),
        ]:
            self.unchanged(desk, kind, told, desk.do_line, line)
        for line in ("drop check 0", "drop key 0", "drop check 9"):
            self.unchanged(Desk(PLAIN), BadShape, {"why": "rules", "at": 0}, Desk(PLAIN).do_line, line)
        for claim in WatchTest.SIX:
            desk.do_line(f"watch {claim_text(claim)}")
        self.unchanged(desk, TooMany, {"limit": 6}, desk.do_line, "watch never where b is empty")

    def test_no_string(self):
        desk = Desk(SHAPE)
        for thing in odd_things() + [5, {}, ["undo"], SHAPE]:
            self.unchanged(desk, BadText, {"line": -1}, desk.do_line, thing)

    def test_other_lines(self):
        desk = Desk(SHAPE)
        lines = [
            "", " ", "undo ", " undo", "undo\n", "Undo", "undo 1", "redo ", "redo redo", "re do", "add", "add ", "add x", "add  filled b", "add filled b ",
            "add filled", "add check", "add a < 1", "add check (a < 1)", "add key", "add key a,b", "drop", "drop ", "drop check", "drop check ", "drop  check 0",
            "drop check  0", "drop check 0 ", "drop check 00", "drop check 01", "drop check -0", "drop check -1", "drop check +0", "drop check x", "drop check 0x0",
            "drop key 0,", "drop key", "drop key 00", "drop key a", "drop filled", "drop filled ", "drop filled and", "drop filled A", "drop filled 0", "drop filled c ",
            "drop filled c, a", "drop filled abcdefghi", "drop Check 0", "drop checks 0", "drop 0", "drop rule 0", "watch", "watch ", "watch never", "watch never where",
            "watch  never where always", "ask", "ask ", "ask always", "ask never where (always)", "plan", "plan  ", "plan x", "plan flip;", "plan  flip", "plan flip ",
            "plan first; first; first; first; first; first", "never where always", "filled b", "check always", "flip", "nothing", "holds", "drop check \u0660",
            "drop check 1_0", "drop check 1.0", "drop\tcheck 0", "add\tfilled b", "\x00", "quit", "drop key 0\n", "watch never where always\n",
        ]
        for line in lines:
            self.unchanged(desk, BadText, {"line": 0}, desk.do_line, line)
        self.assertEqual((desk.undo(), desk.redo()), (None, None))
        self.unchanged(desk, BadText, {"line": 0}, desk.do_line, "ask never where " + "(" * 1500)
        self.unchanged(desk, BadText, {"line": 0}, desk.do_line, "plan " + "flip; " * 5000)

    def test_a_line_does_the_same_as_the_method(self):
        chance = random.Random(761)
        done = 0
        for _ in range(25):
            shape = few_shape(chance, columns=2)
            one, other = Desk(shape), Desk(shape)
            for _ in range(14):
                word = chance.choice(("add", "add", "drop", "undo", "redo", "watch", "ask"))
                if word == "add":
                    rule = few_rule(chance, shape)
                    pair = f"add {rule_text(rule)}", lambda: changes(other, other.add_rule(rule))
                elif word == "drop":
                    name = chance.choice(own_rules(other.shape()) + [("check", 7)])
                    pair = f"drop {name[0]} {name[1]}", lambda: changes(other, other.drop_rule(name))
                elif word in ("undo", "redo"):
                    pair = word, lambda: changes(other, getattr(other, word)())
                else:
                    claim = few_claim(chance, shape, chance.choice(CLAIM_WORDS))
                    if word == "watch":
                        pair = f"watch {claim_text(claim)}", lambda: ["holds" if other.watch(claim) else "breaks"]
                    else:
                        pair = f"ask {claim_text(claim)}", lambda: ["holds" if other.asked(claim)[0] == "always" else "breaks"]
                try:
                    expected = pair[1]()
                except RowsError as error:
                    self.unchanged(one, type(error), vars(error), one.do_line, pair[0])
                else:
                    done += 1
                    told = one.do_line(pair[0])
                    self.assertIs(type(told), list)
                    self.assertEqual(told, expected)
                self.assertEqual((one.shape(), one.watched()), (other.shape(), other.watched()))
                for claim, holds in one.watched():
                    self.assertEqual(claim, need_claim(claim))
                    self.assertIs(holds, claim_holds(one.shape(), claim)[0] == "always")
        self.assertGreater(done, 200)


def changes(desk, told):
    """The lines of changes."""
    if told is None:
        return ["nothing"]
    return [f"{'holds' if holds else 'breaks'}: {claim_text(desk.watched()[at][0])}" for at, holds in told]


class PlanLineTest(Desks):
    def test_it_changes_nothing(self):
        desk = Desk(SHAPE)
        desk.add_rule(("filled", "b"))
        desk.undo()
        self.assertEqual(desk.do_line("plan flip; flip")[-1], "flip; flip")
        self.assertEqual(desk.do_line("ask never where a > 5"), ["holds"])
        self.assertEqual((desk.redo(), desk.redo()), ([], None))

    def test_several_steps(self):
        told = Desk(SHAPE).do_line("plan keep a < 0; sort a up; keep a < 1; distinct a; first")
        self.assertEqual(told[0], "keep a < 0; sort a up; keep a < 1; distinct a; first")
        self.assertEqual(told[-1], "keep a < 0; sort a up; first")
        self.assertEqual(len(told), 3)


if __name__ == "__main__":
    unittest.main()
