"""A live table: rows of a shape, each under an id, which always keep the rules of the shape."""

from tworows.contents import (
    Contents, change_where, done, drop_under, has_row, need_deeds, need_no_fault, put_all, put_in, row_under, set_under,
    strike_where,
)
from tworows.plans import run


def settled(shape, contents):
    """The contents, if they have no fault."""
    need_no_fault(shape, contents)
    return contents


def copied(contents):
    """The same contents with rows of their own."""
    return Contents({row_id: dict(row) for row_id, row in contents.held.items()}, contents.upcoming)


class Store:
    """Rows under ids; a deed that is refused changes nothing."""

    def __init__(self, shape):
        self.ground = shape
        self.contents = Contents({}, 1)

    def shape(self):
        """The shape."""
        return self.ground

    def ids(self):
        """The ids in ascending order."""
        return list(self.contents.held)

    def table(self):
        """The rows in ascending order of their ids."""
        return [dict(row) for row in self.contents.held.values()]

    def put(self, row):
        """Let a row in and tell its id."""
        contents, row_id = put_in(self.ground, self.contents, row)
        self.contents = settled(self.ground, contents)
        return row_id

    def drop(self, row_id):
        """Take a row away and return it."""
        contents, row = drop_under(self.contents, row_id)
        self.contents = contents
        return row

    def change(self, test, sets):
        """Give the rows at which the test is True new values, all at once, and tell how many they are."""
        contents, many = change_where(self.ground, self.contents, test, sets)
        self.contents = settled(self.ground, contents)
        return many

    def strike(self, test):
        """Take the rows away at which the test is True and tell how many they were."""
        contents, many = strike_where(self.ground, self.contents, test)
        self.contents = contents
        return many

    def ask(self, plan):
        """The rows that a plan makes of the table, one behind the other."""
        for row in run(self.ground, plan, self.table()):
            yield row

    def together(self, deeds):
        """Do several deeds or none; faults are looked at behind the last one alone."""
        need_deeds(deeds)
        contents = self.contents
        answers = []
        for deed in deeds:
            contents, answer = done(self.ground, contents, deed)
            answers.append(answer)
        self.contents = settled(self.ground, contents)
        return answers

    def twin(self):
        """A store of its own with the same shape, rows, ids and next id."""
        other = Store(self.ground)
        other.contents = copied(self.contents)
        return other

    def __getitem__(self, row_id):
        return row_under(self.contents, row_id)

    def __setitem__(self, row_id, row):
        contents, _ = set_under(self.ground, self.contents, row_id, row)
        self.contents = settled(self.ground, contents)

    def __contains__(self, row_id):
        return has_row(self.contents, row_id)

    def __len__(self):
        return len(self.contents.held)

    def __iter__(self):
        raise TypeError("a store is not iterated over")

    def __ior__(self, other):
        self.contents = settled(self.ground, put_all(self.ground, self.contents, other))
        return self

    def __eq__(self, other):
        return (
            isinstance(other, Store) and self.ground == other.ground and self.contents.held == other.contents.held
        )
