"""Orders: columns with directions, by which rows are sorted."""

from tworows.errors import BadOrder
from tworows.shapes import is_short
from tworows.values import is_ahead, is_name

DIRECTIONS = ("up", "down")
MOST_PARTS = 3


def is_part(thing):
    """Whether a thing is a sequence of a name and a direction."""
    if not is_short(thing, 2, 2) or not is_name(thing[0]):
        return False
    # Only strings are looked up: comparing bytes with strings may warn.
    return isinstance(thing[1], str) and thing[1] in DIRECTIONS


def need_order(thing):
    """The order as a tuple of tuples; what is no order is refused."""
    if not is_short(thing, 1, MOST_PARTS):
        raise BadOrder(-1)
    names = {}
    for at, part in enumerate(thing):
        if not is_part(part) or part[0] in names:
            raise BadOrder(at)
        names[part[0]] = True
    return tuple([tuple(part) for part in thing])


def order_in(shape, thing):
    """The order as a tuple of tuples, if its columns are columns of the shape."""
    order = need_order(thing)
    for at, part in enumerate(order):
        if part[0] not in shape.spots:
            raise BadOrder(at)
    return order


def turned(order):
    """The order with the other direction in each part."""
    return tuple([(name, "down" if direction == "up" else "up") for name, direction in order])


def alike_in(names, row, other):
    """Whether two rows have the same places in these columns."""
    return all([row[name] == other[name] for name in names])


def comes_ahead(order, row, other):
    """Whether one row comes ahead of another one in an order."""
    for name, direction in order:
        if row[name] != other[name]:
            return is_ahead(row[name], other[name]) == (direction == "up")
    return False


def merged(order, rows, others):
    """Two sorted lists as one; of rows of which neither comes ahead, those of the first list stay ahead."""
    found = []
    at = 0
    for row in rows:
        while at < len(others) and comes_ahead(order, others[at], row):
            found.append(others[at])
            at += 1
        found.append(row)
    return found + others[at:]


def sort_rows(order, rows):
    """Copies of the rows, sorted; rows of which neither comes ahead stay as they stood."""
    if len(rows) < 2:
        return [dict(row) for row in rows]
    half = len(rows) // 2
    return merged(order, sort_rows(order, rows[:half]), sort_rows(order, rows[half:]))
