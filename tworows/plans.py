"""Plans: steps that take a list of rows to another one; which steps are idle, and which may be exchanged."""

from tworows.errors import BadOrder, BadPlan
from tworows.logic import Test, never
from tworows.orders import alike_in, comes_ahead, need_order, sort_rows, turned
from tworows.pairs import (
    NOT_YES, YES, ahead, copy_test, decided, is_answer, is_large, key_wants, need_few_atoms, need_small, same,
    shows_cases,
)
from tworows.shapes import are_names, check_table, fits, is_short, may_stand
from tworows.values import is_integer, is_worded

MOST_STEPS = 5
# How many items each step has.
STEP_SIZES = {"keep": 2, "sort": 2, "distinct": 2, "first": 1, "flip": 1}


class Plan:
    """Steps that are run one behind the other; it never changes."""

    def __init__(self, steps):
        if not is_short(steps, 0, MOST_STEPS):
            raise BadPlan("steps", -1)
        for at, step in enumerate(steps):
            if not is_step(step):
                raise BadPlan("steps", at)
        self.course = tuple([step_of(step) for step in steps])

    def steps(self):
        """The steps as tuples."""
        return list(self.course)

    def __eq__(self, other):
        return isinstance(other, Plan) and self.course == other.course

    def __len__(self):
        return len(self.course)


def is_step(thing):
    """Whether a thing is a step of a plan."""
    if not is_worded(thing) or thing[0] not in STEP_SIZES or len(thing) != STEP_SIZES[thing[0]]:
        return False
    if thing[0] == "keep":
        return isinstance(thing[1], Test)
    if thing[0] == "sort":
        return is_order(thing[1])
    return thing[0] != "distinct" or are_names(thing[1], 0, 3)


def is_order(thing):
    """Whether a thing is an order."""
    try:
        need_order(thing)
    except BadOrder:
        return False
    return True


def step_of(step):
    """A step as a tuple, its names and orders too."""
    if step[0] == "sort":
        return ("sort", need_order(step[1]))
    if step[0] == "distinct":
        return ("distinct", tuple(step[1]))
    return tuple(step)


def columns_of_order(order):
    """The names of the columns of an order."""
    return [name for name, _ in order]


def unlike_rows(names, rows):
    """The rows that are alike in the names to no earlier row, as new dicts."""
    seen = {}
    found = []
    for row in rows:
        held = tuple([row[name] for name in names])
        if held not in seen:
            seen[held] = True
            found.append(dict(row))
    return found


def run_step(step, rows):
    """The list that a step makes of a list of rows."""
    if step[0] == "keep":
        return [dict(row) for row in rows if step[1].truth(row) is True]
    if step[0] == "sort":
        return sort_rows(step[1], rows)
    if step[0] == "distinct":
        return unlike_rows(step[1], rows)
    if step[0] == "first":
        return [dict(row) for row in rows[:1]]
    return [dict(row) for row in rows[::-1]]


def run_steps(steps, rows):
    """The list that steps make of a list of rows, one behind the other."""
    found = [dict(row) for row in rows]
    for step in steps:
        found = run_step(step, found)
    return found


def step_fits(shape, step):
    """Whether the test and the columns of a step fit the shape."""
    if step[0] == "keep":
        return fits(shape, step[1])
    if step[0] == "sort":
        return all([name in shape.spots for name in columns_of_order(step[1])])
    return step[0] != "distinct" or all([name in shape.spots for name in step[1]])


def need_plan(thing):
    """Refuse what is no plan."""
    if not isinstance(thing, Plan):
        raise BadPlan("plan", -1)


def run(shape, plan, table):
    """The list of rows that a plan makes of a table."""
    need_plan(plan)
    for at, step in enumerate(plan.steps()):
        if not step_fits(shape, step):
            raise BadPlan("shape", at)
    check_table(shape, table)
    return run_steps(plan.steps(), table)


def need_plan_in(shape, plan):
    """Refuse a shape that is not small, and what is no plan for it or has too large tests."""
    need_small(shape)
    need_plan(plan)
    for at, step in enumerate(plan.steps()):
        if not step_fits(shape, step):
            raise BadPlan("shape", at)
        if step[0] == "keep" and is_large(step[1]):
            raise BadPlan("large", at)


def need_place(shape, plan, i, behind):
    """Refuse a wrong shape or plan, and an i that has not as many steps from it on as it must have."""
    need_plan_in(shape, plan)
    if not is_integer(i) or i < 0 or i > len(plan) - behind:
        raise BadPlan("index", -1)


def standing_order(plan, i):
    """The order that the sorts ahead of step i leave, or () if there are none."""
    order = ()
    for step in plan.steps()[:i]:
        if step[0] == "flip":
            order = turned(order)
        if step[0] == "sort":
            names = columns_of_order(step[1])
            order = step[1] + tuple([part for part in order if part[0] not in names])
    return order


def given_ahead(plan, i, word):
    """What stands in the steps of a word ahead of step i, a test, an order or names for each."""
    return [step[1] for step in plan.steps()[:i] if step[0] == word]


def leaves_one_row(plan, i):
    """Whether at most one row comes to step i."""
    return any([step == ("first",) or step == ("distinct", ()) for step in plan.steps()[:i]])


def has_alike_rows(names, rows):
    """Whether two rows at different places are alike in the names."""
    return any([alike_in(names, row, other) for at, row in enumerate(rows) for other in rows[:at]])


def is_sorted(order, rows):
    """Whether no row comes ahead of one that stands earlier."""
    return not any([comes_ahead(order, other, row) for row, other in zip(rows, rows[1:])])


def can_stand(shape, plan, i, rows):
    """Whether some table brings these rows, in this order, to step i."""
    need_place(shape, plan, i, 0)
    if not may_stand(shape, rows):
        return False
    return (
        all([test.truth(row) is True for test in given_ahead(plan, i, "keep") for row in rows])
        and not any([has_alike_rows(names, rows) for names in given_ahead(plan, i, "distinct")])
        and (len(rows) < 2 or not leaves_one_row(plan, i))
        and is_sorted(standing_order(plan, i), rows)
    )


def pair_wants(shape, plan, i, one, other):
    """What two copies of a case ahead of step i keep together."""
    wants = key_wants(shape, one, other)
    wants = wants + [(same(names, one, other), NOT_YES) for names in given_ahead(plan, i, "distinct")]
    order = standing_order(plan, i)
    if len(order) > 0:
        wants = wants + [(ahead(turned(order), one, other), NOT_YES)]
    return wants


def case_ahead(shape, plan, i, n, own):
    """The case of n copies ahead of step i with these wants of the step's own."""
    wants = [(never(), YES)] if n > 1 and leaves_one_row(plan, i) else []
    wants = wants + [(copy_test(test, at), YES) for at in range(1, n + 1) for test in given_ahead(plan, i, "keep")]
    for one, other in ((1, 2), (1, 3), (2, 3)):
        if other <= n:
            wants = wants + pair_wants(shape, plan, i, one, other)
    return (n, wants + own)


def own_idle(shape, step):
    """The number of copies and the own wants of the case in which a step changes a list."""
    if step[0] == "keep":
        return (1, [(copy_test(step[1], 1), NOT_YES)])
    if step[0] == "sort":
        return (2, [(ahead(turned(step[1]), 1, 2), YES)])
    if step[0] == "distinct":
        return (2, [(same(step[1], 1, 2), YES)])
    if step[0] == "first":
        return (2, [])
    return (2, [(same(shape.names(), 1, 2), NOT_YES)])


def cases_of_idle(shape, plan, i):
    """The case that has no row just if step i is idle, in a list."""
    need_place(shape, plan, i, 1)
    n, own = own_idle(shape, plan.steps()[i])
    return [case_ahead(shape, plan, i, n, own)]


def own_sorts(order, other):
    """The own wants of the cases of two sorts."""
    one = [(ahead(order, 1, 2), YES), (ahead(turned(other), 1, 2), YES)]
    two = [(ahead(turned(order), 1, 2), YES), (ahead(other, 1, 2), YES)]
    return [(2, one), (2, two)]


def lost_rows(names, others):
    """The own wants of three rows of which only the order names, others of two distincts lets the third one stay."""
    between = [(same(names, 1, 2), YES), (same(others, 2, 3), YES)]
    return between + [(same(names, 1, 3), NOT_YES), (same(others, 1, 3), NOT_YES)]


def own_mixed(step):
    """The own wants of a keep or a sort beside a step that looks for the first row."""
    if step[0] == "keep":
        return [(copy_test(step[1], 1), NOT_YES), (copy_test(step[1], 2), YES)]
    return [(ahead(turned(step[1]), 1, 2), YES)]


def own_with_flip(shape, step):
    """The own wants of the cases of a sort, a first or a distinct beside a flip."""
    unlike = [(same(shape.names(), 1, 2), NOT_YES)]
    if step[0] == "sort":
        return [(2, [(same(columns_of_order(step[1]), 1, 2), NOT_YES)])]
    if step[0] == "first":
        return [(2, unlike)]
    outer = [(same(step[1], 1, 3), YES), (same(step[1], 1, 2), NOT_YES)]
    return [(2, [(same(step[1], 1, 2), YES)] + unlike), (3, outer)]


def own_exchange(shape, one, other):
    """The numbers of copies and the own wants of the cases in which two steps may not be exchanged."""
    words = (one[0], other[0])
    if words == ("sort", "sort"):
        return own_sorts(one[1], other[1])
    if words == ("distinct", "distinct"):
        return [(3, lost_rows(one[1], other[1])), (3, lost_rows(other[1], one[1]))]
    if words in (("keep", "distinct"), ("sort", "distinct")):
        return [(2, [(same(other[1], 1, 2), YES)] + own_mixed(one))]
    if words in (("keep", "first"), ("sort", "first")):
        return [(2, own_mixed(one))]
    if words in (("sort", "flip"), ("distinct", "flip"), ("first", "flip")):
        return own_with_flip(shape, one)
    if words[0] == words[1] or words in (("keep", "sort"), ("keep", "flip"), ("distinct", "first")):
        return []
    # What is left are two steps that are listed with the other one first.
    return own_exchange(shape, other, one)


def cases_of_exchange(shape, plan, i):
    """The cases of which none has a row just if steps i and i + 1 may be exchanged."""
    need_place(shape, plan, i, 2)
    one, other = plan.steps()[i : i + 2]
    return [case_ahead(shape, plan, i, n, own) for n, own in own_exchange(shape, one, other)]


def idle(shape, plan, i):
    """The decision whether step i changes no list that can stand ahead of it."""
    return decided(shape, cases_of_idle(shape, plan, i))


def may_exchange(shape, plan, i):
    """The decision whether steps i and i + 1 give the same list in either order."""
    return decided(shape, cases_of_exchange(shape, plan, i))


def shows_idle(shape, plan, i, answer):
    """Whether a thing is a decision that shows rightly whether step i is idle."""
    cases = cases_of_idle(shape, plan, i)
    need_few_atoms(shape, cases)
    if not is_answer(answer, "rows"):
        return shows_cases(shape, cases, answer)
    rows = answer[1]
    return can_stand(shape, plan, i, rows) and run_step(plan.steps()[i], rows) != rows


def shows_exchange(shape, plan, i, answer):
    """Whether a thing is a decision that shows rightly whether steps i and i + 1 may be exchanged."""
    cases = cases_of_exchange(shape, plan, i)
    need_few_atoms(shape, cases)
    if not is_answer(answer, "rows"):
        return shows_cases(shape, cases, answer)
    rows = answer[1]
    one, other = plan.steps()[i : i + 2]
    return can_stand(shape, plan, i, rows) and run_steps([one, other], rows) != run_steps([other, one], rows)
