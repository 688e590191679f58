"""Decisions about all rows of a shape, and scopes: the rows at which a test is True."""

from tworows.errors import BadClaim, TooMany
from tworows.logic import compare, conjuncts, empty, sure
from tworows.search import find_row
from tworows.shapes import check_table, column_of, fits_row, need_test

MOST_CONJUNCTS = 6


def answer_of(shape, questions):
    """A row that meets the first wants that some row meets, or the trees that show that there is none for any."""
    trees = ()
    for wants in questions:
        word, found = find_row(shape, wants)
        if word == "row":
            return ("row", found)
        trees = trees + (found,)
    return ("always",) + trees


def outside(one, other):
    """The wants for a row at which one test is True and another one is not."""
    return [(one, (True,)), (other, (False, None))]


def within(shape, one, other):
    """Whether the other test is True wherever the one is True."""
    need_test(shape, one)
    need_test(shape, other)
    return answer_of(shape, [outside(one, other)])


def never_comes(shape, test):
    """Whether a test is True nowhere."""
    need_test(shape, test)
    return answer_of(shape, [[(test, (True,))]])


def alike(shape, one, other):
    """Whether two tests are True at the same rows."""
    need_test(shape, one)
    need_test(shape, other)
    return answer_of(shape, [outside(one, other), outside(other, one)])


def same_truth(shape, one, other):
    """Whether two tests have the same truth at every row."""
    need_test(shape, one)
    need_test(shape, other)
    false = [(one, (False,)), (other, (True, None))]
    unknown = [(one, (None,)), (other, (True, False))]
    return answer_of(shape, [outside(one, other), false, unknown])


def differing(column, value):
    """The want that a place in a column is another one than this."""
    if value is None:
        return (empty(column), (False,))
    return (compare(column, "==", value), (False, None))


def fixed(shape, test, column):
    """Whether all rows at which a test is True have the same place in a column."""
    need_test(shape, test)
    column_of(shape, column)
    word, row = find_row(shape, [(test, (True,))])
    if word == "none":
        return ("never",)
    word, other = find_row(shape, [(test, (True,)), differing(column, row[column])])
    if word == "none":
        return ("value", row[column])
    return ("rows", [row, other])


def index_sets(many, size):
    """All ascending lists of so many different indexes below a number, in ascending order."""
    if size == 0:
        return [[]]
    return [chosen + [at] for chosen in index_sets(many, size - 1) for at in range(many) if is_beyond(chosen, at)]


def is_beyond(chosen, at):
    """Whether an index is greater than those that are chosen."""
    return len(chosen) == 0 or chosen[-1] < at


def is_enough(shape, test, given, parts):
    """Whether a test is True wherever these other tests are."""
    wants = [(part, (True,)) for part in [given] + parts] + [(test, (False, None))]
    return find_row(shape, wants)[0] == "none"


def has_part(chosen, found):
    """Whether one of the sets that are found lies in a set of indexes."""
    return any([all([at in chosen for at in one]) for one in found])


def left_over(shape, test, given):
    """The least sets of conjuncts of a test that are enough where another test is True."""
    need_test(shape, test)
    need_test(shape, given)
    parts = conjuncts(test)
    if len(parts) > MOST_CONJUNCTS:
        raise TooMany(MOST_CONJUNCTS)
    found = []
    for size in range(len(parts) + 1):
        for chosen in index_sets(len(parts), size):
            # Whatever is added to a set that is enough, it stays enough.
            if not has_part(chosen, found) and is_enough(shape, test, given, [parts[at] for at in chosen]):
                found.append(chosen)
    return found


class Scope:
    """The rows of a shape at which a test is True."""

    def __init__(self, shape, test):
        need_test(shape, test)
        self.ground = shape
        self.member = test

    def base(self):
        """The shape."""
        return self.ground

    def test(self):
        """The test."""
        return self.member

    def rows(self, table):
        """The indexes of the rows of a table that belong to the scope."""
        check_table(self.ground, table)
        return [at for at, row in enumerate(table) if self.member.truth(row) is True]

    def is_empty(self):
        """Whether no row of the shape belongs to the scope."""
        return never_comes(self.ground, self.member)[0] == "always"

    def __le__(self, other):
        need_same_shape(self, other)
        return lies_in(self, other)

    def __ge__(self, other):
        need_same_shape(self, other)
        return lies_in(other, self)

    def __lt__(self, other):
        need_same_shape(self, other)
        return lies_in(self, other) and not lies_in(other, self)

    def __gt__(self, other):
        need_same_shape(self, other)
        return lies_in(other, self) and not lies_in(self, other)

    def __eq__(self, other):
        return (
            isinstance(other, Scope) and self.ground == other.ground and lies_in(self, other) and lies_in(other, self)
        )

    def __and__(self, other):
        need_same_shape(self, other)
        return Scope(self.ground, self.member & other.member)

    def __or__(self, other):
        need_same_shape(self, other)
        return Scope(self.ground, self.member | other.member)

    def __sub__(self, other):
        need_same_shape(self, other)
        return Scope(self.ground, self.member & ~sure(other.member))

    def __invert__(self):
        return Scope(self.ground, ~sure(self.member))

    def __contains__(self, row):
        return fits_row(self.ground, row) and self.member.truth(row) is True


def need_same_shape(one, other):
    """Refuse two scopes of shapes that are not equal."""
    if one.ground != other.ground:
        raise BadClaim("shape")


def lies_in(one, other):
    """Whether every row of one scope is a row of another one of an equal shape."""
    return within(one.ground, one.member, other.member)[0] == "always"
