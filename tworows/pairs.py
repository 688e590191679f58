"""Copies of a row side by side, decisions about them, and claims about all tables of a small shape.

A case is a tuple (n, wants): a number of copies and wants for them. A decision
is ("always", trees) or ("rows", rows).
"""

from tworows.errors import BadClaim, BadTest, TooMany
from tworows.logic import Test, against, always, empty
from tworows.orders import need_order, order_in, turned
from tworows.search import find_row
from tworows.shapes import Shape, are_names, may_stand, need_test
from tworows.trees import shows_none
from tworows.values import is_name, is_worded
from tworows.wants import MOST_BASICS, count_atoms

LONGEST_SMALL_NAME = 7
MOST_SMALL_COLUMNS = 4
MOST_SMALL_RULES = 3
MOST_SMALL_ATOMS = 8
MOST_SMALL_LEVELS = 8
YES = (True,)
NOT_YES = (False, None)
# The parts of each claim behind its word.
CLAIMS = {
    "never": ("test",),
    "within": ("test", "test"),
    "at_most_one": ("test",),
    "constant": ("test", "column"),
    "tells": ("test", "names or none", "names"),
    "apart": ("test", "names"),
    "follows": ("test", "order", "order"),
}


def is_large(test):
    """Whether a test has too many atoms or levels for a small shape."""
    return len(test.atoms()) > MOST_SMALL_ATOMS or test.levels() > MOST_SMALL_LEVELS


def is_small(shape):
    """Whether three copies of a row of the shape may stand side by side."""
    tests = shape.checks() + [test for _, test in shape.unique_keys() if test is not None]
    return (
        len(shape.names()) <= MOST_SMALL_COLUMNS
        and all([len(name) <= LONGEST_SMALL_NAME for name in shape.names()])
        and len(shape.checks()) <= MOST_SMALL_RULES
        and len(shape.unique_keys()) <= MOST_SMALL_RULES
        and not any([is_large(test) for test in tests])
    )


def need_small(shape):
    """Refuse a shape that is not small."""
    if not is_small(shape):
        raise BadClaim("shape")


def numbered(name, i):
    """The name of a column in copy i."""
    return f"{name}{i}"


def copies(shape, n):
    """The shape of n rows side by side."""
    need_small(shape)
    columns = [(numbered(name, i), kind, filled) for i in range(1, n + 1) for name, kind, filled in shape.columns()]
    checks = [copy_test(test, i) for i in range(1, n + 1) for test in shape.checks()]
    return Shape(columns, checks=checks)


def copy_test(test, i):
    """The test about copy i."""
    return test.renamed({name: numbered(name, i) for name in test.names()})


def rows_of(shape, n, row):
    """The rows that stand side by side in a row of copies."""
    return [{name: row[numbered(name, i)] for name in shape.names()} for i in range(1, n + 1)]


def all_of(tests):
    """One or more tests joined by and."""
    joined = tests[0]
    for test in tests[1:]:
        joined = joined & test
    return joined


def equal_values(name, i, j):
    """The test that two copies have the same value in a column."""
    return against(numbered(name, i), "==", numbered(name, j))


def alike_copies(name, i, j):
    """The test that two copies are alike in a column."""
    return equal_values(name, i, j) | (empty(numbered(name, i)) & empty(numbered(name, j)))


def same(names, i, j):
    """The test that two copies are alike in these columns."""
    if len(names) == 0:
        return always()
    return all_of([alike_copies(name, i, j) for name in names])


def ahead_in(name, direction, i, j):
    """The test that copy i comes ahead of copy j by one part of an order."""
    one, other = numbered(name, i), numbered(name, j)
    if direction == "up":
        return (empty(one) & ~empty(other)) | against(one, "<", other)
    return (~empty(one) & empty(other)) | against(one, ">", other)


def ahead(order, i, j):
    """The test that copy i comes ahead of copy j in an order."""
    name, direction = order[0]
    first = ahead_in(name, direction, i, j)
    if len(order) == 1:
        return first
    return first | (same((name,), i, j) & ahead(order[1:], i, j))


def clash(key, i, j):
    """The test that two copies clash in a key."""
    names, test = key
    counts = [] if test is None else [copy_test(test, i), copy_test(test, j)]
    return all_of(counts + [equal_values(name, i, j) for name in names])


def key_wants(shape, i, j):
    """The wants that two copies clash in no key of the shape."""
    return [(clash(key, i, j), NOT_YES) for key in shape.unique_keys()]


def need_few_atoms(shape, cases):
    """Refuse cases of which one has too many basic atoms."""
    for n, wants in cases:
        if count_atoms(copies(shape, n), wants) > MOST_BASICS:
            raise TooMany(MOST_BASICS)


def decided(shape, cases):
    """Trees that show that no case has a row, or the rows in a row of the first case that has one."""
    need_few_atoms(shape, cases)
    trees = []
    for n, wants in cases:
        word, found = find_row(copies(shape, n), wants)
        if word == "row":
            return ("rows", rows_of(shape, n, found))
        trees.append(found)
    return ("always", trees)


def is_answer(thing, word):
    """Whether a thing is a tuple of a word and a list."""
    if not isinstance(thing, tuple) or len(thing) != 2 or not is_worded(thing):
        return False
    return thing[0] == word and isinstance(thing[1], list)


def shows_cases(shape, cases, answer):
    """Whether a thing is a decision with a tree for each case, which shows that the case has no row."""
    if not is_answer(answer, "always") or len(answer[1]) != len(cases):
        return False
    return all([shows_none(copies(shape, n), wants, tree) for (n, wants), tree in zip(cases, answer[1])])


def claim_part(sort, thing):
    """The part of a claim that a thing gives, or an error for what is no such part."""
    if sort == "test":
        if not isinstance(thing, Test):
            raise BadTest("part")
        return thing
    if sort == "order":
        return need_order(thing)
    if sort == "column":
        if not is_name(thing):
            raise BadClaim("names")
        return thing
    if not are_names(thing, 0 if sort == "names or none" else 1, 3):
        raise BadClaim("names")
    return tuple(thing)


def need_claim(thing):
    """The claim as a tuple, by its form alone."""
    if not is_worded(thing) or thing[0] not in CLAIMS or len(thing) != 1 + len(CLAIMS[thing[0]]):
        raise BadClaim("form")
    parts = [claim_part(sort, part) for sort, part in zip(CLAIMS[thing[0]], thing[1:])]
    return (thing[0],) + tuple(parts)


def need_small_test(shape, test):
    """Refuse a test that does not fit a small shape, or is too large for it."""
    need_test(shape, test)
    if is_large(test):
        raise BadClaim("large")


def need_columns_of(shape, names):
    """Refuse names of which one is no column of the shape."""
    for name in names:
        if name not in shape.spots:
            raise BadClaim("column")


def need_claim_in(shape, thing):
    """The claim as a tuple, if it may be put to the shape."""
    need_small(shape)
    claim = need_claim(thing)
    for sort, part in zip(CLAIMS[claim[0]], claim[1:]):
        if sort == "test":
            need_small_test(shape, part)
        elif sort == "order":
            order_in(shape, part)
        else:
            need_columns_of(shape, [part] if sort == "column" else part)
    return claim


def own_wants(claim):
    """The wants of a claim about two rows behind those of its test and the keys."""
    if claim[0] == "constant":
        return [(same((claim[2],), 1, 2), NOT_YES)]
    if claim[0] == "tells":
        return [(same(claim[2], 1, 2), YES), (same(claim[3], 1, 2), NOT_YES)]
    if claim[0] == "apart":
        return [(same(claim[2], 1, 2), YES)]
    if claim[0] == "follows":
        return [(ahead(turned(claim[2]), 1, 2), NOT_YES), (ahead(turned(claim[3]), 1, 2), YES)]
    return []


def both_wants(shape, test):
    """The wants that two rows of a table make a test True."""
    return [(copy_test(test, 1), YES), (copy_test(test, 2), YES)] + key_wants(shape, 1, 2)


def claim_cases(shape, claim):
    """The cases of a claim that may be put to the shape."""
    if claim[0] == "never":
        return [(1, [(copy_test(claim[1], 1), YES)])]
    if claim[0] == "within":
        return [(1, [(copy_test(claim[1], 1), YES), (copy_test(claim[2], 1), NOT_YES)])]
    return [(2, both_wants(shape, claim[1]) + own_wants(claim))]


def cases_of(shape, claim):
    """The case that has no row just if the claim holds, in a list."""
    return claim_cases(shape, need_claim_in(shape, claim))


def claim_holds(shape, claim):
    """The decision whether a claim is true of every table of the shape."""
    return decided(shape, cases_of(shape, claim))


def breaks(shape, claim, rows):
    """Whether rows are a table of the shape that breaks the claim, as few of them as can be."""
    n, wants = cases_of(shape, claim)[0]
    if not isinstance(rows, list) or len(rows) != n or not may_stand(shape, rows):
        return False
    beside = {numbered(name, at + 1): row[name] for at, row in enumerate(rows) for name in row}
    return all([test.truth(beside) in truths for test, truths in wants])


def shows_claim(shape, claim, answer):
    """Whether a thing is a decision that shows rightly whether the claim holds."""
    cases = cases_of(shape, claim)
    need_few_atoms(shape, cases)
    if is_answer(answer, "rows"):
        return breaks(shape, claim, answer[1])
    return shows_cases(shape, cases, answer)
