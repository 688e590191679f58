"""The errors that the program raises, one class for each kind of fault."""


class RowsError(Exception):
    """What all errors of this program have in common."""


class BadShape(RowsError):
    """A fault in the columns, checks, keys or rules of a shape."""

    def __init__(self, why, at):
        self.why = why
        self.at = at


class BadRow(RowsError):
    """A row or a name of a column that does not belong to a shape or a test."""

    def __init__(self, column):
        self.column = column


class BadTable(RowsError):
    """Rows that are no table of a shape."""

    def __init__(self, why, at):
        self.why = why
        self.at = at


class BadTest(RowsError):
    """A test that cannot be made, or one that does not fit its place."""

    def __init__(self, why):
        self.why = why


class BadWant(RowsError):
    """Wants that are none, or an item of them that is no want."""

    def __init__(self, at):
        self.at = at


class BadOrder(RowsError):
    """An order that is none, or a part of it that is wrong."""

    def __init__(self, at):
        self.at = at


class BadPlan(RowsError):
    """A plan, or what is asked along with it, that is wrong."""

    def __init__(self, why, at):
        self.why = why
        self.at = at


class BadClaim(RowsError):
    """A claim that is none, or one that the shape does not allow."""

    def __init__(self, why):
        self.why = why


class BadDeed(RowsError):
    """Deeds that are none, or an item of them that is no deed."""

    def __init__(self, at):
        self.at = at


class BadText(RowsError):
    """A text that is not the text of the thing that is read."""

    def __init__(self, line):
        self.line = line


class TooMany(RowsError):
    """More of something than a limit lets in."""

    def __init__(self, limit):
        self.limit = limit


class NoRow(RowsError):
    """An id under which a store has no row."""

    def __init__(self, row_id):
        self.row_id = row_id


class CheckFails(RowsError):
    """A row of a store that breaks a check or leaves a filled column empty."""

    def __init__(self, row_id, at):
        self.row_id = row_id
        self.at = at


class KeyClash(RowsError):
    """A row of a store that clashes in a key with one of a lesser id."""

    def __init__(self, row_id, at):
        self.row_id = row_id
        self.at = at


class LimitExceeded(RowsError):
    """More plans than the caller lets the program look at."""

    def __init__(self, limit):
        self.limit = limit
