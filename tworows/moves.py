"""Moves: what makes a plan shorter or changes its steps about, the cheapest plan that comes of them, and offers."""

from tworows.errors import BadPlan, LimitExceeded
from tworows.orders import order_in, turned
from tworows.pairs import NOT_YES, YES, ahead, both_wants, copy_test, decided, need_small_test
from tworows.plans import STEP_SIZES, Plan, idle, leaves_one_row, may_exchange, need_plan_in, standing_order
from tworows.values import is_integer

HIGHEST_PRICE = 1000000


def possible_moves(many):
    """The moves that a plan of so many steps may have, drops ahead of exchanges."""
    return [("drop", i) for i in range(many)] + [("exchange", i) for i in range(many - 1)]


def is_allowed(shape, plan, move):
    """Whether a possible move is a move of the plan."""
    word, i = move
    answer = idle(shape, plan, i) if word == "drop" else may_exchange(shape, plan, i)
    return answer[0] == "always"


def after_move(steps, move):
    """The steps that a move leaves."""
    word, i = move
    if word == "drop":
        return steps[:i] + steps[i + 1 :]
    return steps[:i] + [steps[i + 1], steps[i]] + steps[i + 2 :]


def moved(plan, move):
    """The plan that a move leaves."""
    return Plan(after_move(plan.steps(), move))


def moves(shape, plan):
    """The moves of a plan, each with the plan that it leaves."""
    need_plan_in(shape, plan)
    allowed = [move for move in possible_moves(len(plan)) if is_allowed(shape, plan, move)]
    return [(word, i, moved(plan, (word, i))) for word, i in allowed]


def is_possible(plan, thing):
    """Whether a thing is a move that a plan of this length may have."""
    if not isinstance(thing, tuple) or len(thing) != 2 or not isinstance(thing[0], str):
        return False
    return is_integer(thing[1]) and thing in possible_moves(len(plan))


def shows_moves(shape, plan, steps, end):
    """Whether steps are a list of moves that lead from the plan to the end."""
    need_plan_in(shape, plan)
    if not isinstance(steps, list):
        return False
    for move in steps:
        if not is_possible(plan, move) or not is_allowed(shape, plan, move):
            return False
        plan = moved(plan, move)
    return plan == end


def is_price(thing):
    """Whether a thing is what a step may cost."""
    return is_integer(thing) and 0 <= thing and thing <= HIGHEST_PRICE


def need_prices(thing):
    """Refuse what is no dict with a price for each word of a step, and nothing else."""
    # Only strings are looked up among words: comparing bytes with strings may warn.
    if not isinstance(thing, dict) or not all([isinstance(word, str) and word in STEP_SIZES for word in thing]):
        raise BadPlan("prices", -1)
    if len(thing) != len(STEP_SIZES) or not all([is_price(thing[word]) for word in thing]):
        raise BadPlan("prices", -1)


def numbers_of(values):
    """Different integers in ascending order, as a tuple."""
    return tuple(sorted(set(values)))


def situation(course, plan, move):
    """What decides whether a move is allowed: what stands ahead of it, and its steps, as a key.

    The course has a number for each step of the plan, equal ones for equal steps.
    """
    word, i = move
    numbered = list(zip(course, plan.steps()))[:i]
    keeps = numbers_of([number for number, step in numbered if step[0] == "keep"])
    distincts = numbers_of([number for number, step in numbered if step[0] == "distinct"])
    moving = course[i : i + 1] if word == "drop" else course[i : i + 2]
    return (keeps, distincts, standing_order(plan, i), leaves_one_row(plan, i), moving)


def reached(shape, plan, limit):
    """The courses of all plans that come of a plan, each with moves that lead to it.

    A course has the place of each step in the plan, of equal steps that of the first one.
    """
    steps = plan.steps()
    start = tuple([steps.index(step) for step in steps])
    trails = {start: []}
    courses = [start]
    known = {}
    while len(courses) > 0:
        further = []
        for course in courses:
            left = Plan([steps[number] for number in course])
            for move in possible_moves(len(course)):
                key = situation(course, left, move)
                if key not in known:
                    known[key] = is_allowed(shape, left, move)
                end = tuple(after_move(list(course), move))
                if known[key] and end not in trails:
                    trails[end] = trails[course] + [move]
                    further.append(end)
            if len(trails) > limit:
                raise LimitExceeded(limit)
        courses = further
    return trails


def cheapest(shape, plan, prices, *, limit=500):
    """The least price of all plans that come of a plan, one of them, and the moves that lead to it."""
    need_plan_in(shape, plan)
    need_prices(prices)
    if not is_integer(limit) or limit < 1:
        raise BadPlan("limit", -1)
    steps = plan.steps()
    costs = [prices[step[0]] for step in steps]
    least, best, trail = sum(costs), plan, []
    for course, moved_by in reached(shape, plan, limit).items():
        price = sum([costs[number] for number in course])
        if price < least:
            least, best, trail = price, Plan([steps[number] for number in course]), moved_by
    return (least, best, list(trail))


def need_offer(shape, plan, order, test):
    """Refuse what is no plan for an offer, and what is no offer; the order as a tuple is returned."""
    need_plan_in(shape, plan)
    words = [step[0] for step in plan.steps()]
    if words[:1] != ["keep"]:
        raise BadPlan("offer", 0)
    if words[1:2] != ["sort"]:
        raise BadPlan("offer", 1)
    parts = order_in(shape, order)
    need_small_test(shape, test)
    return parts


def cases_of_offer(shape, plan, order, test):
    """The three cases of which none has a row just if an offer stands for the first two steps of a plan."""
    offered = need_offer(shape, plan, order, test)
    kept, own = [step[1] for step in plan.steps()[:2]]
    both = both_wants(shape, kept)
    outside = (1, [(copy_test(kept, 1), YES), (copy_test(test, 1), NOT_YES)])
    early = [(ahead(turned(own), 1, 2), YES), (ahead(turned(offered), 1, 2), NOT_YES)]
    late = [(ahead(turned(offered), 1, 2), YES), (ahead(turned(own), 1, 2), NOT_YES)]
    return [outside, (2, both + early), (2, both + late)]


def offer_stands(shape, plan, order, test):
    """The decision whether an offer may serve for the first two steps of a plan."""
    return decided(shape, cases_of_offer(shape, plan, order, test))
