"""Wants: tests with the truths that they are to have at one row."""

from tworows.basics import basics, formula
from tworows.errors import BadWant, TooMany
from tworows.masks import NOT_FALSE, flattened, mask_of
from tworows.shapes import fits, is_short

MOST_WANTS = 60
MOST_BASICS = 60


def is_truth(thing):
    """Whether a thing is True, False or None; 1 and 0 are none."""
    return thing is None or isinstance(thing, bool)


def is_want(shape, thing):
    """Whether a thing is a test that fits the shape and the truths that are wanted of it."""
    if not is_short(thing, 2, 2) or not fits(shape, thing[0]):
        return False
    truths = thing[1]
    if not is_short(truths, 1, 3) or not all([is_truth(truth) for truth in truths]):
        return False
    return len(set(truths)) == len(truths)


def wanted_atoms(shape, wants):
    """The basic atoms of the wants and of the checks of the shape."""
    tests = [want[0] for want in wants] + list(shape.check_tests)
    return [atom for test in tests for atom in basics(test)]


def count_atoms(shape, wants):
    """The number of different basic atoms in the wants and the checks of the shape."""
    return len(set(wanted_atoms(shape, wants)))


def need_wants(shape, wants):
    """Refuse what are no wants for the shape, and wants of too many basic atoms."""
    if not is_short(wants, 0, MOST_WANTS):
        raise BadWant(-1)
    for at, want in enumerate(wants):
        if not is_want(shape, want):
            raise BadWant(at)
    if count_atoms(shape, wants) > MOST_BASICS:
        raise TooMany(MOST_BASICS)


def conditions(shape, wants, places):
    """Each want and each check as the nodes of its formula and the mask of the truths that it may have.

    The places are those of the basic atoms. The wants stand ahead of the checks.
    """
    asked = [(want[0], mask_of(want[1])) for want in wants] + [(test, NOT_FALSE) for test in shape.check_tests]
    return [(flattened(formula(test), places, 0), need) for test, need in asked]
