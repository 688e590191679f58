"""The search for a row of a shape that meets wants, or for a tree that shows that there is none."""

from tworows.bounds import with_bound
from tworows.masks import BITS
from tworows.problems import FULL, Problem
from tworows.proofs import joined, mark_of, missed_proof, written
from tworows.states import first_state, first_view, forced_atom, is_settled, state_after, view_of
from tworows.values import next_value
from tworows.wants import need_wants


def chosen_atom(problem, state, view):
    """The atom to split on: one that stands often in conditions with few open atoms."""
    scores = [0] * len(problem.facts)
    for at, members in enumerate(problem.members):
        if view.unmet >> at & 1:
            free = [atom for atom in members if not is_settled(state.held[atom])]
            for atom in free:
                scores[atom] = scores[atom] + (1 << max(0, 10 - len(free)))
    return scores.index(max([int(score) for score in scores]))


def searched(problem, state, view):
    """A tuple (state, proof): a state in which all conditions are met, or None and a proof that there is none."""
    view = view_of(problem, state, view)
    trail = []
    forced = forced_atom(problem, state, view)
    while view.broken < 0 and forced >= 0 and view.left[forced] != 0:
        bit = view.left[forced]
        trail.append((state, forced, bit))
        state = state_after(problem, state, forced, bit)
        view = view_of(problem, state, view)
        forced = forced_atom(problem, state, view)
    found, proof = ended(problem, state, view, forced)
    if found is not None:
        return (found, None)
    for ahead, atom, bit in trail[::-1]:
        if proof[1] & mark_of(atom, bit):
            proof = joined(problem, ahead, atom, {bit: proof})
    return (None, proof)


def ended(problem, state, view, forced):
    """What a search finds from a state in which no step is forced."""
    if view.broken >= 0:
        return (None, missed_proof(problem, state.way, view.broken))
    if forced >= 0:
        return (None, joined(problem, state, forced, {}))
    if view.unmet == 0:
        return (state, None)
    return split(problem, state, view, chosen_atom(problem, state, view))


def split(problem, state, view, atom):
    """What a search finds from a state by the truths of an atom."""
    proofs = {}
    for bit in BITS:
        if view.left[atom] & bit:
            found, proof = searched(problem, state_after(problem, state, atom, bit), view)
            if found is not None or proof[1] & mark_of(atom, bit) == 0:
                return (found, proof)
            proofs[bit] = proof
    return (None, joined(problem, state, atom, proofs))


def value_for(limits, column):
    """A value that the limits allow in a column."""
    if limits.lows[column] is not None:
        return limits.lows[column]
    most = None
    for gain, end in zip(limits.paths[column], limits.ends):
        if gain is not None and end is not None and (most is None or end - 1 - gain < most):
            most = end - 1 - gain
    if most is None:
        return 0
    return most


def row_of(problem, state):
    """A row with the truths of a state; all columns are empty that may be."""
    limits = state.limits
    row = {}
    for column, name in enumerate(problem.labels):
        row[name] = None
        if state.known[column] == FULL:
            value = value_for(limits, column)
            row[name] = value
            limits = with_bound(limits, (None, column, 0, value))
            limits = with_bound(limits, (column, None, 0, next_value(value)))
    return row


def find_row(shape, wants):
    """A row of the shape that meets the wants, or a tree that shows that there is none."""
    need_wants(shape, wants)
    problem = Problem(shape, wants)
    state = first_state(problem)
    found, proof = searched(problem, state, first_view(problem, state))
    if found is not None:
        return ("row", row_of(problem, found))
    return ("none", written(problem, proof[0], {}))
