"""What a search for a row is about: a shape and wants, with numbers in the place of names.

Atoms, columns and conditions are named by their places in the lists of a
problem, truths by their bits. Conditions are the wants and the checks; sets of
them are numbers with a bit for each.
"""

from tworows.basics import ordered_atoms
from tworows.bounds import bound_of
from tworows.masks import ALL, truth_bit, truths_in
from tworows.trees import columns_in, made_empty, made_full
from tworows.wants import conditions, wanted_atoms

UNSEEN = 0
EMPTY = 1
FULL = 2


class Problem:
    """A shape and wants; the atoms are those of the conditions, and that each column is empty."""

    def __init__(self, shape, wants):
        self.labels = shape.names()
        self.sorts = [shape.kind(name) for name in self.labels]
        self.outset = [FULL if shape.filled(name) else UNSEEN for name in self.labels]
        asked = ordered_atoms(wanted_atoms(shape, wants))
        further = [("empty", name) for name in self.labels]
        self.facts = asked + [atom for atom in further if atom not in asked]
        places = {atom: at for at, atom in enumerate(self.facts)}
        self.demands = conditions(shape, wants, places)
        self.spans = [[self.labels.index(name) for name in columns_in(atom)] for atom in self.facts]
        self.bounds = [placed_bounds(self.labels, atom) for atom in self.facts]
        self.makes = [made_by_truths(atom) for atom in self.facts]
        self.empties = [places[atom] for atom in further]
        self.over = [atoms_over(self.spans, column) for column in range(len(self.labels))]
        self.members = [members_of(nodes) for nodes, _ in self.demands]
        self.users = [users_of(self.members, at) for at in range(len(self.facts))]


def placed_bounds(labels, atom):
    """The bounds of an atom with the places of the columns, under the bits of its truths; None is none."""
    return {truth_bit(truth): placed_bound(labels, atom, truth) for truth in truths_in(ALL)}


def placed_bound(labels, atom, truth):
    """The bound of a step with the places of the columns, or None."""
    bound = bound_of(atom, truth)
    if bound is None:
        return None
    return (place_of(labels, bound[0]), place_of(labels, bound[1]), bound[2], bound[3])


def place_of(labels, name):
    """The place of a column, or None for the start and the end."""
    if name is None:
        return None
    return labels.index(name)


def atoms_over(spans, column):
    """The atoms that have a column."""
    return [at for at, span in enumerate(spans) if column in span]


def made_by_truths(atom):
    """What an atom makes of its columns, under the bits of its truths."""
    return {truth_bit(truth): made_by(atom, truth) for truth in truths_in(ALL)}


def made_by(atom, truth):
    """What a step makes of all columns of its atom: empty, not empty, or neither."""
    if len(made_empty((atom, truth))) > 0:
        return EMPTY
    if len(made_full((atom, truth))) > 0:
        return FULL
    return UNSEEN


def members_of(nodes):
    """The atoms of a formula in ascending order, each once."""
    return sorted(set([first for word, first, _ in nodes if word == "is"]))


def users_of(members, atom):
    """The set of the conditions in which an atom occurs."""
    return sum([1 << at for at, atoms in enumerate(members) if atom in atoms])


def bits_in(places):
    """The places of a set, from the least on."""
    return [at for at in range(places.bit_length()) if places >> at & 1]
