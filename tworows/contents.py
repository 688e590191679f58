"""What a store holds, and the deeds that make other contents of it.

Each deed takes a shape, contents and what it is told. It returns new contents
and its answer, and does not look at faults.
"""

from tworows.errors import BadDeed, BadRow, BadTable, CheckFails, KeyClash, NoRow, TooMany
from tworows.shapes import MOST_ROWS, check_row, is_place, is_row, is_short, key_marks, need_test, row_fault
from tworows.values import is_integer, is_name, is_sequence, is_worded

MOST_DEEDS = 30
# How many items each deed has.
DEED_SIZES = {"put": 2, "set": 3, "drop": 2, "change": 3, "strike": 2}


class Contents:
    """The rows of a store under their ids, in ascending order of these, and the next id; they never change."""

    def __init__(self, held, upcoming):
        self.held = held
        self.upcoming = upcoming


def need_no_fault(shape, contents):
    """Refuse contents that are no table of the shape, by their least id with a fault."""
    taken = {}
    for row_id, row in contents.held.items():
        fault = row_fault(shape, row)
        if fault is not None:
            raise CheckFails(row_id, fault[1])
        for mark in key_marks(shape, row):
            if mark in taken:
                raise KeyClash(row_id, mark[0])
            taken[mark] = True


def has_row(contents, row_id):
    """Whether there is a row under an id."""
    return is_integer(row_id) and row_id in contents.held


def row_under(contents, row_id):
    """A copy of the row under an id."""
    if not has_row(contents, row_id):
        raise NoRow(row_id)
    return dict(contents.held[row_id])


def put_in(shape, contents, row):
    """A further row; the answer is its id."""
    check_row(shape, row)
    if len(contents.held) >= MOST_ROWS:
        raise TooMany(MOST_ROWS)
    row_id = contents.upcoming
    return (Contents({**contents.held, row_id: dict(row)}, row_id + 1), row_id)


def put_all(shape, contents, rows):
    """Further rows in their order."""
    if not is_sequence(rows):
        raise BadTable("rows", -1)
    for at, row in enumerate(rows):
        if not is_row(shape, row):
            raise BadTable("rows", at)
    for row in rows:
        contents, _ = put_in(shape, contents, row)
    return contents


def set_under(shape, contents, row_id, row):
    """Another row in the place of the one under an id."""
    if not has_row(contents, row_id):
        raise NoRow(row_id)
    check_row(shape, row)
    return (Contents({**contents.held, row_id: dict(row)}, contents.upcoming), None)


def drop_under(contents, row_id):
    """One row less; the answer is this row."""
    row = row_under(contents, row_id)
    held = {other: contents.held[other] for other in contents.held if other != row_id}
    return (Contents(held, contents.upcoming), row)


def is_new_value(shape, kind, thing):
    """Whether a thing says what stands in a column of this kind from now on."""
    if not is_short(thing, 2, 2) or not is_worded(thing):
        return False
    if thing[0] == "value":
        return is_place(kind, thing[1])
    if thing[0] == "column":
        return is_name(thing[1]) and thing[1] in shape.spots and shape.spots[thing[1]][1] == kind
    return thing[0] == "more" and kind == "number" and is_integer(thing[1])


def need_sets(shape, sets):
    """Refuse what is no dict of new values for columns."""
    if not isinstance(sets, dict):
        raise BadRow(None)
    for name in sets:
        if not is_name(name) or name not in shape.spots:
            raise BadRow(None)
    for name, kind, _ in shape.layout:
        if name in sets and not is_new_value(shape, kind, sets[name]):
            raise BadRow(name)


def new_place(row, name, told):
    """What stands in a column of a row from now on."""
    word, thing = told
    if word == "value":
        return thing
    if word == "column":
        return row[thing]
    return None if row[name] is None else row[name] + thing


def changed(row, sets):
    """The row with the new values."""
    return {**row, **{name: new_place(row, name, sets[name]) for name in sets}}


def members(contents, test):
    """The ids of the rows at which a test is True."""
    return [row_id for row_id, row in contents.held.items() if test.truth(row) is True]


def change_where(shape, contents, test, sets):
    """New values in all rows at which a test is True; the answer is their number."""
    need_test(shape, test)
    need_sets(shape, sets)
    chosen = {row_id: changed(contents.held[row_id], sets) for row_id in members(contents, test)}
    return (Contents({**contents.held, **chosen}, contents.upcoming), len(chosen))


def strike_where(shape, contents, test):
    """The rows less at which a test is True; the answer is their number."""
    need_test(shape, test)
    chosen = members(contents, test)
    held = {row_id: row for row_id, row in contents.held.items() if row_id not in chosen}
    return (Contents(held, contents.upcoming), len(chosen))


def need_deeds(deeds):
    """Refuse what are no deeds, by their forms alone."""
    if not is_sequence(deeds):
        raise BadDeed(-1)
    if len(deeds) > MOST_DEEDS:
        raise TooMany(MOST_DEEDS)
    for at, deed in enumerate(deeds):
        if not is_worded(deed) or deed[0] not in DEED_SIZES or len(deed) != DEED_SIZES[deed[0]]:
            raise BadDeed(at)


def done(shape, contents, deed):
    """The contents and the answer of a deed that has the right form."""
    if deed[0] == "put":
        return put_in(shape, contents, deed[1])
    if deed[0] == "set":
        return set_under(shape, contents, deed[1], deed[2])
    if deed[0] == "drop":
        return drop_under(contents, deed[1])
    if deed[0] == "change":
        return change_where(shape, contents, deed[1], deed[2])
    return strike_where(shape, contents, deed[1])
