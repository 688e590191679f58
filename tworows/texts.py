"""Texts of tests, orders, claims, rules, plans and shapes, and reading them back."""

from tworows.errors import BadClaim, BadOrder, BadPlan, BadShape, BadTest, BadText
from tworows.orders import need_order
from tworows.pairs import need_claim
from tworows.plans import MOST_STEPS, Plan
from tworows.reading import behind, claim_at, name_at, names_at, order_at, span_at, test_at, where_at
from tworows.shapes import MOST_KEY_NAMES, Shape, are_names
from tworows.values import LETTERS


def test_text(test):
    """The text of a test."""
    return str(test)


def listed(names):
    """Names separated by commas."""
    return ", ".join(names)


def where_text(test):
    """The word where and a test."""
    return f" where {test_text(test)}"


def order_text(order):
    """The text of an order."""
    return ", ".join([f"{name} {direction}" for name, direction in need_order(order)])


def claim_text(claim):
    """The text of a claim."""
    claim = need_claim(claim)
    where = where_text(claim[1])
    if claim[0] == "never":
        return f"never{where}"
    if claim[0] == "within":
        return f"always {test_text(claim[2])}{where}"
    if claim[0] == "at_most_one":
        return f"at most one{where}"
    if claim[0] == "constant":
        return f"constant {claim[2]}{where}"
    if claim[0] == "tells":
        return f"({listed(claim[2])}) tell ({listed(claim[3])}){where}"
    if claim[0] == "apart":
        return f"apart ({listed(claim[2])}){where}"
    return f"order ({order_text(claim[2])}) gives ({order_text(claim[3])}){where}"


def rule_text(rule):
    """The text of a rule."""
    word, thing = rule
    if word == "check":
        return f"check {test_text(thing)}"
    if word == "filled":
        return f"filled {thing}"
    names, test = thing
    where = "" if test is None else where_text(test)
    return f"key {listed(names)}{where}"


def step_text(step):
    """The text of a step of a plan."""
    if step[0] == "keep":
        return f"keep {test_text(step[1])}"
    if step[0] == "sort":
        return f"sort {order_text(step[1])}"
    if step[0] == "distinct" and len(step[1]) > 0:
        return f"distinct {listed(step[1])}"
    return step[0]


def plan_text(plan):
    """The text of a plan."""
    return "; ".join([step_text(step) for step in plan.steps()])


def column_text(column):
    """The line of a column of a shape."""
    name, kind, filled = column
    word = " filled" if filled else ""
    return f"column {name} {kind}{word}"


def shape_text(shape):
    """The lines of a shape."""
    lines = [column_text(column) for column in shape.columns()]
    lines = lines + [rule_text(("check", test)) for test in shape.checks()]
    return "\n".join(lines + [rule_text(("key", key)) for key in shape.unique_keys()])


def need_string(thing):
    """Refuse what is no string."""
    if not isinstance(thing, str):
        raise BadText(-1)


def need_same(text, written):
    """Refuse a text that is not written as the thing is that was read from it."""
    if text != written:
        raise BadText(0)


def read_test(text):
    """The test whose text this is."""
    need_string(text)
    try:
        test, _ = test_at(text, 0, 0)
    except BadTest:
        raise BadText(0)
    need_same(text, test_text(test))
    return test


def read_order(text):
    """The order whose text this is."""
    need_string(text)
    try:
        order = need_order(order_at(text, 0)[0])
    except BadOrder:
        raise BadText(0)
    need_same(text, order_text(order))
    return order


def read_claim(text):
    """The claim whose text this is."""
    need_string(text)
    try:
        claim = need_claim(claim_at(text))
    except (BadTest, BadClaim, BadOrder):
        raise BadText(0)
    need_same(text, claim_text(claim))
    return claim


def key_at(text, at):
    """The key that stands from a place on to the end of a text."""
    names, at = names_at(text, at)
    if not are_names(names, 1, MOST_KEY_NAMES):
        raise BadText(0)
    if at == len(text):
        return (tuple(names), None)
    test, at = where_at(text, at)
    return (tuple(names), test)


def rule_at(text):
    """The rule at the beginning of a text."""
    if text.startswith("check "):
        return ("check", test_at(text, 6, 0)[0])
    if text.startswith("filled "):
        return ("filled", name_at(text, 7)[0])
    return ("key", key_at(text, behind(text, 0, "key ")))


def read_rule(text):
    """The rule whose text this is."""
    need_string(text)
    try:
        rule = rule_at(text)
    except BadTest:
        raise BadText(0)
    need_same(text, rule_text(rule))
    return rule


def step_at(text, at):
    """The step of a plan at a place of a text, and the place behind it."""
    word, at = span_at(text, at, LETTERS)
    if word == "distinct" and not text.startswith(" ", at):
        return ((word, ()), at)
    if word == "distinct":
        names, at = names_at(text, at + 1)
        return ((word, names), at)
    if word == "keep":
        test, at = test_at(text, behind(text, at, " "), 0)
        return ((word, test), at)
    if word == "sort":
        order, at = order_at(text, behind(text, at, " "))
        return ((word, order), at)
    return ((word,), at)


def steps_at(text):
    """The steps at the beginning of a text."""
    step, at = step_at(text, 0)
    steps = [step]
    while text.startswith("; ", at) and len(steps) <= MOST_STEPS:
        step, at = step_at(text, at + 2)
        steps.append(step)
    return steps


def read_plan(text):
    """The plan whose text this is."""
    need_string(text)
    try:
        plan = Plan([] if text == "" else steps_at(text))
    except (BadTest, BadPlan):
        raise BadText(0)
    need_same(text, plan_text(plan))
    return plan


def column_of_line(line):
    """The column that a line of a shape says."""
    words = line.split(" ")
    if len(words) == 3:
        return (words[1], words[2], False)
    if len(words) == 4 and words[3] == "filled":
        return (words[1], words[2], True)
    raise BadText(0)


def with_rule(shape, rule):
    """The shape with the check or the key of one more line; no check stands behind a key."""
    word, thing = rule
    if word == "key":
        return shape.with_key(thing)
    if word == "filled" or len(shape.unique_keys()) > 0:
        raise BadText(0)
    return shape.with_check(thing)


def with_line(shape, line):
    """The shape with one more line; there is no shape, but None, ahead of the first line."""
    if not line.startswith("column "):
        rule = read_rule(line)
        if shape is None:
            raise BadText(0)
        return with_rule(shape, rule)
    column = column_of_line(line)
    if shape is None:
        return Shape([column])
    if len(shape.checks()) + len(shape.unique_keys()) > 0:
        raise BadText(0)
    return Shape(shape.columns() + [column])


def read_shape(text):
    """The shape whose text this is."""
    need_string(text)
    shape = None
    for at, line in enumerate(text.split("\n")):
        try:
            shape = with_line(shape, line)
        except (BadText, BadShape):
            raise BadText(at)
    return shape
