"""The states of a search: what is known after the steps of a way, and what follows from it.

A literal is a tuple (atom, bit): the place of an atom and the bit of its truth.
"""

from tworows.bounds import contradicts, no_limits, with_bound
from tworows.masks import ALL, FALSE, KNOWN, TRUE, UNKNOWN, narrowed, weighed
from tworows.problems import EMPTY, FULL, UNSEEN, bits_in


class State:
    """What some literals, a way, say.

    known has what is known of each column, held the mask of each atom by the
    rules for ways, limits what is known of the values, and nulls the under
    atoms with an unknown truth, each with its columns.
    """

    def __init__(self, way, known, held, limits, nulls):
        self.way = way
        self.known = known
        self.held = held
        self.limits = limits
        self.nulls = nulls


class View:
    """What follows from a state.

    left has the truths of each atom that do not contradict the state at once.
    unmet is the set of the conditions that some row of the state may miss, and
    broken is a condition that each row misses, or -1. seen are the masks of
    the state that was looked at last.
    """

    def __init__(self, seen, left, unmet, broken):
        self.seen = seen
        self.left = left
        self.unmet = unmet
        self.broken = broken


def is_settled(mask):
    """Whether a mask has one truth alone."""
    return mask & (mask - 1) == 0


def rule_mask(problem, known, atom):
    """What an atom may be by what is known of its columns."""
    seen = [known[column] for column in problem.spans[atom]]
    asks_empty = problem.facts[atom][0] == "empty"
    if EMPTY in seen:
        return TRUE if asks_empty else UNKNOWN
    if UNSEEN in seen:
        return KNOWN if asks_empty else ALL
    return FALSE if asks_empty else KNOWN


def first_state(problem):
    """What is known without any steps."""
    held = [rule_mask(problem, problem.outset, atom) for atom in range(len(problem.facts))]
    return State((), problem.outset, held, no_limits(problem.sorts), ())


def first_view(problem, state):
    """What is looked at first: all conditions."""
    return View([], state.held, (1 << len(problem.demands)) - 1, -1)


def known_after(problem, known, atom, bit):
    """What is known of the columns after a literal."""
    made = problem.makes[atom][bit]
    if made == UNSEEN:
        return known
    found = list(known)
    for column in problem.spans[atom]:
        found[column] = made
    return found


def held_after(problem, state, atom, bit):
    """What the atoms may be after a literal that the state does not contradict."""
    known = known_after(problem, state.known, atom, bit)
    held = list(state.held)
    held[atom] = bit
    for column in problem.spans[atom]:
        if known[column] != state.known[column]:
            for other in problem.over[column]:
                held[other] = held[other] & rule_mask(problem, known, other)
    return held


def state_after(problem, state, atom, bit):
    """The state after a literal that it does not contradict."""
    bound = problem.bounds[atom][bit]
    limits = state.limits if bound is None else with_bound(state.limits, bound)
    nulls = state.nulls
    if bit == UNKNOWN and len(problem.spans[atom]) == 2:
        nulls = nulls + ((atom, problem.spans[atom]),)
    known = known_after(problem, state.known, atom, bit)
    return State(state.way + ((atom, bit),), known, held_after(problem, state, atom, bit), limits, nulls)


def opened(problem, state, atom, bit):
    """The atom of the state that a literal leaves open although both its columns are not empty, or -1."""
    if problem.makes[atom][bit] != FULL:
        return -1
    span = problem.spans[atom]
    for other, columns in state.nulls:
        if all([column in span or state.known[column] == FULL for column in columns]):
            return other
    return -1


def is_refused(problem, state, atom, bit):
    """Whether a literal that is possible by the rules for ways contradicts the literals of a state."""
    if opened(problem, state, atom, bit) >= 0:
        return True
    bound = problem.bounds[atom][bit]
    return bound is not None and contradicts(state.limits, bound)


def stale_conditions(problem, state, view):
    """The unmet conditions that were not looked at since their atoms changed."""
    if len(view.seen) == 0:
        return view.unmet
    stale = 0
    for users, one, other in zip(problem.users, view.seen, state.held):
        if one != other:
            stale = stale | users
    return stale & view.unmet


def view_of(problem, state, view):
    """What follows from a state, from what followed from one ahead of it."""
    left = [one & other for one, other in zip(view.left, state.held)]
    unmet = view.unmet
    for at in bits_in(stale_conditions(problem, state, view)):
        nodes, need = problem.demands[at]
        masks = weighed(nodes, state.held)
        if masks[-1] & need == 0:
            return View(state.held, left, unmet, at)
        if masks[-1] & need == masks[-1]:
            unmet = unmet - (1 << at)
        else:
            left = left_by(problem, state, left, narrowed(nodes, masks, need))
    return View(state.held, left_by_limits(problem, state, left, unmet), unmet, -1)


def left_by(problem, state, left, found):
    """What is left of each atom if its occurrences in a condition may have these truths alone."""
    kept = list(left)
    for atom, mask in found:
        kept[atom] = kept[atom] & mask
        if state.held[atom] & UNKNOWN and mask & UNKNOWN == 0:
            for column in problem.spans[atom]:
                kept[problem.empties[column]] = kept[problem.empties[column]] & FALSE
    return kept


def left_by_limits(problem, state, left, unmet):
    """What is left of each atom of an unmet condition by the literals of a state."""
    kept = list(left)
    for atom, mask in enumerate(left):
        matters = problem.users[atom] & unmet or len(state.nulls) > 0
        if matters and not is_settled(state.held[atom]):
            for bit in (TRUE, FALSE):
                if mask & bit and is_refused(problem, state, atom, bit):
                    kept[atom] = kept[atom] - bit
    return kept


def forced_atom(problem, state, view):
    """An atom that may be two things by the rules for ways, but of which less than two truths are left, or -1.

    One of which none is left stands ahead of the others.
    """
    found = -1
    for atom, mask in enumerate(view.left):
        if is_settled(mask) and not is_settled(state.held[atom]):
            if mask == 0:
                return atom
            if found < 0:
                found = atom
    return found
