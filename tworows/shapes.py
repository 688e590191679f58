"""Shapes: the columns of one table and its rules; rows and tables of a shape."""

from tworows.errors import BadRow, BadShape, BadTable, BadTest
from tworows.logic import Test
from tworows.values import is_name, is_sequence, is_value

KINDS = ("number", "text")
MOST_COLUMNS = 12
MOST_RULES = 9
MOST_KEY_NAMES = 3
MOST_ROWS = 60


class Shape:
    """The columns of one table, its checks and its keys; it never changes."""

    def __init__(self, columns, *, checks=(), keys=()):
        need_columns(columns)
        self.layout = tuple([tuple(column) for column in columns])
        self.spots = {column[0]: column for column in self.layout}
        need_checks(self.spots, checks)
        self.check_tests = tuple(checks)
        need_keys(self.spots, keys)
        self.key_rules = tuple([(tuple(names), test) for names, test in keys])

    def columns(self):
        """The columns as tuples of name, kind and flag."""
        return list(self.layout)

    def names(self):
        """The names of the columns in their order."""
        return [column[0] for column in self.layout]

    def checks(self):
        """The tests that every row keeps."""
        return list(self.check_tests)

    def unique_keys(self):
        """The keys as tuples of a tuple of names and a test or None."""
        return list(self.key_rules)

    def kind(self, name):
        """The kind of a column."""
        return column_of(self, name)[1]

    def filled(self, name):
        """Whether a column is never empty."""
        return column_of(self, name)[2]

    def with_check(self, test):
        """The same shape with one more check."""
        return Shape(self.layout, checks=self.check_tests + (test,), keys=self.key_rules)

    def with_key(self, key):
        """The same shape with one more key."""
        return Shape(self.layout, checks=self.check_tests, keys=self.key_rules + (key,))

    def with_filled(self, name):
        """The same shape in which a column is never empty."""
        chosen = column_of(self, name)
        columns = [(column[0], column[1], column[2] or column == chosen) for column in self.layout]
        return Shape(columns, checks=self.check_tests, keys=self.key_rules)

    def __eq__(self, other):
        return (
            isinstance(other, Shape)
            and self.layout == other.layout
            and self.check_tests == other.check_tests
            and self.key_rules == other.key_rules
        )


def is_short(thing, least, most):
    """Whether a thing is a sequence with so many items."""
    return is_sequence(thing) and least <= len(thing) and len(thing) <= most


def is_column(thing):
    """Whether a thing is a sequence of a name, a kind and a flag."""
    if not is_short(thing, 3, 3):
        return False
    # Only strings are looked up: comparing bytes with strings may warn.
    right_kind = isinstance(thing[1], str) and thing[1] in KINDS
    return is_name(thing[0]) and right_kind and isinstance(thing[2], bool)


def need_columns(columns):
    """Refuse what are no columns of a shape."""
    if not is_short(columns, 1, MOST_COLUMNS):
        raise BadShape("columns", -1)
    names = {}
    for at, column in enumerate(columns):
        if not is_column(column) or column[0] in names:
            raise BadShape("columns", at)
        names[column[0]] = True


def need_checks(spots, checks):
    """Refuse what are no checks for columns."""
    if not is_short(checks, 0, MOST_RULES):
        raise BadShape("checks", -1)
    for at, test in enumerate(checks):
        if not is_fitting(spots, test):
            raise BadShape("checks", at)


def need_keys(spots, keys):
    """Refuse what are no keys for columns."""
    if not is_short(keys, 0, MOST_RULES):
        raise BadShape("keys", -1)
    for at, key in enumerate(keys):
        if not is_key(spots, key):
            raise BadShape("keys", at)


def are_names(thing, least, most):
    """Whether a thing is a sequence of so many different names."""
    if not is_short(thing, least, most) or not all([is_name(name) for name in thing]):
        return False
    return len(set(thing)) == len(thing)


def is_key(spots, thing):
    """Whether a thing is a key for columns, given by their names."""
    if not is_short(thing, 2, 2) or not are_names(thing[0], 1, MOST_KEY_NAMES):
        return False
    if not all([name in spots for name in thing[0]]):
        return False
    return thing[1] is None or is_fitting(spots, thing[1])


def is_fitting(spots, thing):
    """Whether a thing is a test that fits columns, given by their names."""
    return isinstance(thing, Test) and all([atom_fits(spots, atom) for atom in thing.atoms()])


def atom_fits(spots, atom):
    """Whether an atomic test fits columns, given by their names."""
    if not all([name in spots for name in atom.fields]):
        return False
    kinds = [spots[name][1] for name in atom.fields]
    if atom.word == "compare":
        return is_value(kinds[0], atom.terms[1])
    if atom.word == "against":
        return kinds[0] == kinds[1] and (kinds[0] == "number" or atom.terms[1] == 0)
    if atom.word == "among":
        return all([is_value(kinds[0], value) for value in atom.terms])
    return atom.word != "begins" or kinds[0] == "text"


def column_of(shape, name):
    """The column of this name as a tuple."""
    if not is_name(name) or name not in shape.spots:
        raise BadRow(name)
    return shape.spots[name]


def fits(shape, test):
    """Whether a test fits the columns of a shape."""
    return is_fitting(shape.spots, test)


def need_test(shape, thing):
    """Refuse what is no test, or one that does not fit the shape."""
    if not isinstance(thing, Test):
        raise BadTest("part")
    if not fits(shape, thing):
        raise BadTest("column")


def check_row(shape, row):
    """Refuse what is no row for the shape."""
    if not isinstance(row, dict):
        raise BadRow(None)
    for name, kind, _ in shape.layout:
        if name not in row or not is_place(kind, row[name]):
            raise BadRow(name)
    if len(row) > len(shape.layout):
        raise BadRow(None)


def is_place(kind, thing):
    """Whether a thing is None or a value of the kind."""
    return thing is None or is_value(kind, thing)


def is_row(shape, thing):
    """Whether a thing is a row for the shape."""
    try:
        check_row(shape, thing)
    except BadRow:
        return False
    return True


def row_fault(shape, row):
    """The first rule that a row for the shape breaks by itself, or None.

    It is the word filled with the name of a column, or check with an index.
    """
    for name, _, filled in shape.layout:
        if filled and row[name] is None:
            return ("filled", name)
    for at, test in enumerate(shape.check_tests):
        if test.truth(row) is False:
            return ("check", at)
    return None


def fits_row(shape, thing):
    """Whether a thing is a row of the shape."""
    return is_row(shape, thing) and row_fault(shape, thing) is None


def key_marks(shape, row):
    """What no other row of a table may have: for each key that counts here its index and the values."""
    marks = []
    for at, (names, test) in enumerate(shape.key_rules):
        held = tuple([row[name] for name in names])
        counts = test is None or test.truth(row) is True
        if counts and not any([value is None for value in held]):
            marks.append((at, held))
    return marks


def check_table(shape, rows):
    """Refuse what is no table of the shape."""
    if not is_short(rows, 0, MOST_ROWS):
        raise BadTable("rows", -1)
    for at, row in enumerate(rows):
        if not is_row(shape, row):
            raise BadTable("rows", at)
    taken = {}
    for at, row in enumerate(rows):
        fault = row_fault(shape, row)
        if fault is not None:
            raise BadTable(fault[0], at)
        for mark in key_marks(shape, row):
            if mark in taken:
                raise BadTable("key", at)
            taken[mark] = True


def may_stand(shape, thing):
    """Whether a thing is a table of the shape."""
    try:
        check_table(shape, thing)
    except BadTable:
        return False
    return True
