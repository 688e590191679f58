"""Random tests, shapes, wants and ways, all rows of small values, and the truths of point [28] by its words."""

import itertools
import random

from tworows.basics import basic_truth, basics, formula
from tworows.errors import TooMany
from tworows.logic import against, always, among, begins, compare, empty, never, sure
from tworows.shapes import Shape, fits_row
from tworows.wants import need_wants

OPS = ("<", "<=", "==", "!=", ">", ">=")
TEXTS = ("", " ", "  ", "a", "a ", "b", "~", "~~")
PREFIXES = ("", " ", "a", "~")


def random_atom(chance, names, others):
    """An atomic test over columns of numbers and columns of texts."""
    turn = chance.random()
    if turn < 0.06:
        return chance.choice([always(), never()])
    if turn < 0.18:
        return empty(chance.choice(names + others))
    if turn < 0.42 and len(names) > 1:
        one, other = chance.sample(names, 2)
        return against(one, chance.choice(OPS), other, more=chance.randint(-1, 1))
    if turn < 0.6 and len(others) > 1:
        one, other = chance.sample(others, 2)
        return against(one, chance.choice(OPS), other)
    if len(names) > 0 and (turn < 0.8 or len(others) == 0):
        if chance.random() < 0.3:
            return among(chance.choice(names), [chance.randint(-1, 1) for _ in range(chance.randint(1, 3))])
        return compare(chance.choice(names), chance.choice(OPS), chance.randint(-1, 1))
    column = chance.choice(others)
    if chance.random() < 0.3:
        return among(column, [chance.choice(TEXTS) for _ in range(chance.randint(1, 3))])
    if chance.random() < 0.3:
        return begins(column, chance.choice(PREFIXES))
    return compare(column, chance.choice(OPS), chance.choice(TEXTS))


def random_test(chance, names, others, levels):
    """A test of at most so many levels."""
    if levels == 0 or chance.random() < 0.2:
        return random_atom(chance, names, others)
    turn = chance.random()
    one = random_test(chance, names, others, levels - 1)
    if turn < 0.12:
        return ~one
    if turn < 0.2:
        return sure(one)
    other = random_test(chance, names, others, levels - 1)
    return one & other if turn < 0.55 else one | other


def random_shape(chance, names, others, checks):
    """A shape of these columns with so many checks."""
    columns = [(name, "number", chance.random() < 0.3) for name in names]
    columns += [(name, "text", chance.random() < 0.3) for name in others]
    chance.shuffle(columns)
    return Shape(columns, checks=[random_test(chance, names, others, chance.randint(0, 2)) for _ in range(checks)])


def random_wants(chance, names, others, many, levels):
    """So many wants."""
    wants = []
    for _ in range(many):
        truths = [True, False, None]
        chance.shuffle(truths)
        if chance.random() < 0.5:
            truths = chance.choice([[True], [False, None]])
        test = random_test(chance, names, others, levels)
        wants.append((test, tuple(truths[: chance.choice((1, 1, 2))])))
    return wants


def random_questions(seed, many, columns=3, most=6):
    """So many shapes and wants with at most 60 basic atoms."""
    chance = random.Random(seed)
    found = []
    while len(found) < many:
        numbers = chance.randint(0, columns)
        names, others = list("nmo")[:numbers], list("tuv")[: columns - numbers]
        shape = random_shape(chance, names, others, chance.choice((0, 0, 1, 2)))
        wants = random_wants(chance, names, others, chance.randint(0, most), chance.randint(0, 3))
        try:
            need_wants(shape, wants)
        except TooMany:
            continue
        found.append((shape, wants))
    return found


def places(kind, filled):
    """Enough places of a kind to decide what these random tests ask of up to three columns."""
    if kind == "number":
        values = list(range(-7, 8))
    else:
        values = sorted({text + " " * more for text in (*TEXTS, "!", "a!", "\"") for more in range(4)})
    return values if filled else [None] + values


def all_rows(shape):
    """All rows of a shape with the places above."""
    held = [places(kind, filled) for _, kind, filled in shape.columns()]
    for values in itertools.product(*held):
        row = dict(zip(shape.names(), values))
        if fits_row(shape, row):
            yield row


def meets(row, wants):
    """Whether each test has one of its truths at a row."""
    return all(any(test.truth(row) is truth for truth in truths) for test, truths in wants)


def some_row(shape, wants):
    """A row of small values that meets wants, or None."""
    return next((row for row in all_rows(shape) if meets(row, wants)), None)


def fields_of(atom):
    """The columns of a basic atom."""
    return atom[1:3] if atom[0] == "under" else atom[1:2]


def known_places(shape, way):
    """The columns known to be empty and those known to be not empty after a way."""
    void, full = set(), {name for name, _, filled in shape.columns() if filled}
    for atom, truth in way:
        if atom[0] == "empty":
            (void if truth else full).add(atom[1])
        elif truth is not None:
            full.update(fields_of(atom))
        elif atom[0] == "below":
            void.add(atom[1])
    return void, full


def atom_truths(shape, way, atom):
    """The truths that a basic atom may have after a way."""
    for other, truth in way:
        if other == atom:
            return {truth}
    void, full = known_places(shape, way)
    if any(name in void for name in fields_of(atom)):
        return {True} if atom[0] == "empty" else {None}
    if all(name in full for name in fields_of(atom)):
        return {False} if atom[0] == "empty" else {True, False}
    return {True, False} if atom[0] == "empty" else {True, False, None}


def joined_truth(word, truths):
    """The truth of a formula of this word whose parts have these truths."""
    if word == "not":
        return None if truths[0] is None else not truths[0]
    if word == "sure":
        return truths[0] is True
    deciding = word == "or"
    if deciding in truths:
        return deciding
    return None if None in truths else not deciding


def formula_truths(shape, way, one):
    """The truths that a formula may have after a way, each occurrence of an atom for itself."""
    if one[0] == "is":
        return atom_truths(shape, way, one[1])
    if len(one) == 1:
        return {one[0] == "always"}
    parts = [formula_truths(shape, way, part) for part in one[1:]]
    return {joined_truth(one[0], truths) for truths in itertools.product(*parts)}


def possible_truths(shape, test, way):
    """What point [28] says of a test, in its order."""
    found = formula_truths(shape, way, formula(test))
    return tuple(truth for truth in (True, False, None) if truth in found)


def random_way(chance, shape, tests, row, most):
    """A way of atoms of these tests, with their truths at a row, or with any if the row is None."""
    atoms = [atom for test in tests for atom in basics(test)] + [("empty", name) for name in shape.names()]
    way = []
    for atom in chance.sample(atoms, min(most, len(atoms))):
        if row is not None:
            way.append((atom, basic_truth(atom, row)))
        else:
            way.append((atom, chance.choice([True, False] if atom[0] == "empty" else [True, False, None])))
    return way
