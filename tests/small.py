"""Small shapes, claims, plans and rules by chance, and all short tables over few values."""

import itertools

from tests.cases import random_test
from tests.helper import joined
from tworows.logic import compare
from tworows.plans import Plan
from tworows.shapes import Shape, fits_row, may_stand

WORDS = ("keep", "sort", "distinct", "first", "flip")
FEW = {"number": (None, 0, 1), "text": (None, "", "a")}


def deepened(test, levels):
    """A test with so many levels more."""
    for _ in range(levels):
        test = ~test
    return test


def large_shapes():
    """One shape for each thing that a small shape has not, with a column a of numbers."""
    one = compare("a", "<", 1)
    wide, high = joined([one] * 9), deepened(one, 9)
    column = ("a", "number", False)
    return [
        Shape([column, ("abcdefgh", "text", False)]),
        Shape([column] + [(name, "number", False) for name in "bcde"]),
        Shape([column], checks=[one] * 4),
        Shape([column], keys=[(["a"], None)] * 4),
        Shape([column], checks=[one, wide]),
        Shape([column], checks=[high]),
        Shape([column], keys=[(["a"], None), (["a"], wide)]),
        Shape([column], keys=[(["a"], high)]),
    ]


def few_test(chance, shape, levels=1):
    """A test over the columns of a shape."""
    names = [name for name, kind, _ in shape.columns() if kind == "number"]
    others = [name for name, kind, _ in shape.columns() if kind == "text"]
    return random_test(chance, names, others, chance.randint(0, levels))


def few_atom(chance, shape):
    """An atomic test over the columns of a shape."""
    return few_test(chance, shape, 0)


def few_shape(chance, columns=2, checks=1, keys=1):
    """A small shape with a few rules."""
    chosen = [(name, chance.choice(("number", "text")), chance.random() < 0.25) for name in "abcd"[:columns]]
    plain = Shape(chosen)
    tests = [few_test(chance, plain) for _ in range(chance.randint(0, checks))]
    return Shape(chosen, checks=tests, keys=[few_key(chance, plain) for _ in range(chance.randint(0, keys))])


def few_names(chance, shape, least=1, most=3):
    """Some different columns of a shape."""
    names = shape.names()
    return tuple(chance.sample(names, min(len(names), chance.randint(least, most))))


def few_key(chance, shape):
    """A key of a shape."""
    return (few_names(chance, shape, 1, 2), few_test(chance, shape) if chance.random() < 0.4 else None)


def few_order(chance, shape):
    """An order over columns of a shape."""
    return tuple((name, chance.choice(("up", "down"))) for name in few_names(chance, shape))


def few_step(chance, shape, words=WORDS):
    """A step of a plan for a shape."""
    word = chance.choice(words)
    if word == "keep":
        return (word, few_test(chance, shape))
    if word == "sort":
        return (word, few_order(chance, shape))
    if word == "distinct":
        return (word, few_names(chance, shape, 0, 2))
    return (word,)


def few_plan(chance, shape, least=0, most=5, words=WORDS):
    """A plan for a shape."""
    return Plan([few_step(chance, shape, words) for _ in range(chance.randint(least, most))])


def few_claim(chance, shape, word):
    """A claim of this word about a shape."""
    test = few_test(chance, shape)
    parts = {
        "never": lambda: (),
        "within": lambda: (few_test(chance, shape),),
        "at_most_one": lambda: (),
        "constant": lambda: (chance.choice(shape.names()),),
        "tells": lambda: (few_names(chance, shape, 0, 2), few_names(chance, shape)),
        "apart": lambda: (few_names(chance, shape),),
        "follows": lambda: (few_order(chance, shape), few_order(chance, shape)),
    }
    return (word, test, *parts[word]())


def few_rule(chance, shape):
    """A rule for a shape."""
    word = chance.choice(("check", "key", "filled"))
    if word == "check":
        return (word, few_test(chance, shape))
    if word == "key":
        return (word, few_key(chance, shape))
    return (word, chance.choice(shape.names()))


def few_rows(shape):
    """All rows of a shape over few values."""
    held = [FEW[kind] for _, kind, _ in shape.columns()]
    rows = [dict(zip(shape.names(), values)) for values in itertools.product(*held)]
    return [row for row in rows if fits_row(shape, row)]


def few_tables(shape, most):
    """All tables of a shape of at most so many rows over few values."""
    rows = few_rows(shape)
    found = []
    for many in range(most + 1):
        found += [list(table) for table in itertools.product(rows, repeat=many) if may_stand(shape, table)]
    return found
