"""Why literals cannot stand together: trees that name literals, and which literals they rest on.

A proof is a tuple (tree, marks). Its tree is a leaf that names atoms in the
place of the numbers of steps, or ("atom", atom, trees) with a tree for each
truth of the atom. Its marks are the set of the literals that the tree rests
on, a number with a bit for each. It holds after each way with these literals.
"""

from tworows.bounds import shifted
from tworows.masks import BITS, FALSE, TRUE, weighed
from tworows.problems import EMPTY, FULL, UNSEEN
from tworows.states import held_after, opened, rule_mask


def mark_of(atom, bit):
    """The set of one literal."""
    return bit << (3 * atom)


def marks_of(literals):
    """The set of some literals."""
    marks = 0
    for atom, bit in literals:
        marks = marks | mark_of(atom, bit)
    return marks


def bits_of(problem, atom):
    """The bits of the truths that an atom has a branch for."""
    if problem.facts[atom][0] == "empty":
        return (TRUE, FALSE)
    return BITS


def makers(problem, way, column, status):
    """The first literal that makes a column empty or not empty, alone in a list, or no literal."""
    for atom, bit in way:
        if problem.makes[atom][bit] == status and column in problem.spans[atom]:
            return [(atom, bit)]
    return []


def pair_proof(problem, way, column):
    """That a way makes a column both empty and not empty."""
    void = makers(problem, way, column, EMPTY)
    full = makers(problem, way, column, FULL)
    other = full[0][0] if len(full) > 0 else -1
    return (("pair", void[0][0], other), marks_of(void + full))


def open_proof(problem, way, atom):
    """That a way has an unknown truth for the comparison of two columns that it makes not empty."""
    literals = [literal for literal in way if literal[0] == atom]
    full = [literal for column in problem.spans[atom] for literal in makers(problem, way, column, FULL)]
    return (("open", atom), marks_of(literals + full))


def onward(placed, reached):
    """What columns reach by one more bound, from what they reach and by which literals."""
    found = {}
    for (source, target, gain, _), literal in placed:
        if target is not None and source in reached:
            value = shifted(reached[source][0], gain)
            if target not in found or found[target][0] < value:
                found[target] = (value, reached[source][1] + (literal,))
    return found


def cycle_at(placed, column, most):
    """The literals of a shortest ring through a column; none if there is no such ring."""
    reached = {column: (0, ())}
    for _ in range(most):
        reached = onward(placed, reached)
        if column in reached and reached[column][0] > 0:
            return reached[column][1]
    return ()


def starts(problem, placed):
    """What columns reach from the start."""
    found = {column: ("", ()) for column, kind in enumerate(problem.sorts) if kind == "text"}
    for (source, target, _, value), literal in placed:
        if source is None and (target not in found or found[target][0] < value):
            found[target] = (value, (literal,))
    return found


def line_of(problem, placed, most):
    """The literals of a shortest ring that leads to the end."""
    reached = starts(problem, placed)
    for _ in range(most):
        for (source, target, _, value), literal in placed:
            if target is None and source in reached and reached[source][0] >= value:
                return reached[source][1] + (literal,)
        reached = onward(placed, reached)
    return ()


def ring_proof(problem, way):
    """That the last bound of a way contradicts the ones ahead of it."""
    placed = [(problem.bounds[atom][bit], (atom, bit)) for atom, bit in way if problem.bounds[atom][bit] is not None]
    most = len(problem.labels)
    ring = ()
    if placed[-1][0][1] is not None:
        ring = cycle_at(placed, placed[-1][0][1], most)
    if len(ring) == 0:
        ring = line_of(problem, placed, most)
    return (("ring", tuple([atom for atom, _ in ring])), marks_of(ring))


def is_missed(problem, literals, at):
    """Whether some literals alone make a condition missed."""
    known = list(problem.outset)
    for atom, bit in literals:
        if problem.makes[atom][bit] != UNSEEN:
            for column in problem.spans[atom]:
                known[column] = problem.makes[atom][bit]
    truths = {atom: bit for atom, bit in literals}
    held = {atom: truths[atom] if atom in truths else rule_mask(problem, known, atom) for atom in problem.members[at]}
    nodes, need = problem.demands[at]
    return weighed(nodes, held)[-1] & need == 0


def missed_proof(problem, way, at):
    """That a condition is missed, with as few and as early literals as are found."""
    columns = [column for atom in problem.members[at] for column in problem.spans[atom]]
    kept = [(atom, bit) for atom, bit in way if any([column in columns for column in problem.spans[atom]])]
    for literal in kept[::-1]:
        fewer = [other for other in kept if other != literal]
        if is_missed(problem, fewer, at):
            kept = fewer
    return (("missed",), marks_of(kept))


def closed(problem, state, atom, bit):
    """A proof by one leaf that a literal cannot follow a state that leaves several truths to its atom."""
    way = state.way + ((atom, bit),)
    if state.held[atom] & bit == 0:
        # The state leaves several truths to the atom, so this is the unknown one, and no column is empty.
        if problem.facts[atom][0] == "below":
            return pair_proof(problem, way, problem.spans[atom][0])
        return open_proof(problem, way, atom)
    other = opened(problem, state, atom, bit)
    if other >= 0:
        return open_proof(problem, way, other)
    held = held_after(problem, state, atom, bit)
    for at, (nodes, need) in enumerate(problem.demands):
        if weighed(nodes, held)[-1] & need == 0:
            return missed_proof(problem, way, at)
    return ring_proof(problem, way)


def joined(problem, state, atom, proofs):
    """A proof that a state is impossible, from those for some truths of an atom; the others are closed by leaves."""
    marks = 0
    trees = []
    for bit in bits_of(problem, atom):
        tree, rests = proofs[bit] if bit in proofs else closed(problem, state, atom, bit)
        if rests & mark_of(atom, bit) == 0:
            return (tree, rests)
        marks = marks | (rests - mark_of(atom, bit))
        trees.append(tree)
    return (("atom", atom, trees), marks)


def written(problem, tree, places):
    """The tree with basic atoms and numbers of steps; places are the steps of the atoms above it."""
    if tree[0] == "missed":
        return tree
    if tree[0] == "pair":
        return ("pair", places[tree[1]], -1 if tree[2] == -1 else places[tree[2]])
    if tree[0] == "open":
        return ("open", places[tree[1]])
    if tree[0] == "ring":
        return ("ring", tuple([places[atom] for atom in tree[1]]))
    below = {**places, tree[1]: len(places)}
    branches = [written(problem, branch, below) for branch in tree[2]]
    last = branches[2] if len(branches) > 2 else ()
    return ("atom", problem.facts[tree[1]], branches[0], branches[1], last)
