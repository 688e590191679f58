"""The bounds that steps of below and under atoms put on the values of columns.

A bound is a tuple (source, target, gain, value). It leads from a column to a
column, and the value of the target is at least that of the source with the
gain added; a gain of 1 asks for the next value. Or it leads from the start,
which is None, to a column that is at least the value; or from a column to the
end, which is None, and the column is less than the value.
"""

from tworows.values import SIGNS, is_integer


def bound_of(atom, truth):
    """The bound of a step, or None if it has none."""
    if truth is None or atom[0] == "empty":
        return None
    if atom[0] == "below":
        if truth:
            return (atom[1], None, 0, atom[2])
        return (None, atom[1], 0, atom[2])
    if truth:
        return (atom[1], atom[2], 1 - atom[3], None)
    return (atom[2], atom[1], atom[3], None)


def shifted(value, gain):
    """A value with a gain added; a gain of 1 makes a text its next one."""
    if is_integer(value):
        return value + gain
    return value + SIGNS[0] * gain


class Limits:
    """How far some bounds lead; columns are named by their places.

    paths has, for each two columns, the greatest gain from the one to the other;
    lows the greatest value that a column is known to reach; ends the least
    value that a step says a column is less than. None is none.
    """

    def __init__(self, paths, lows, ends):
        self.paths = paths
        self.lows = lows
        self.ends = ends


def no_limits(kinds):
    """What holds of columns of these kinds without bounds: no text is less than the empty one."""
    paths = [[0 if one == other else None for other in range(len(kinds))] for one in range(len(kinds))]
    return Limits(paths, ["" if kind == "text" else None for kind in kinds], [None] * len(kinds))


def greater(one, other):
    """The greater one of two values or gains; None is less than all."""
    if one is None or (other is not None and one < other):
        return other
    return one


def reach(value, gain):
    """A value shifted by the gain of a path, or None if there is no path."""
    if gain is None:
        return None
    return shifted(value, gain)


def with_bound(limits, bound):
    """The limits with one more bound, which they do not contradict."""
    source, target, gain, value = bound
    if target is None:
        ends = list(limits.ends)
        if ends[source] is None or value < ends[source]:
            ends[source] = value
        return Limits(limits.paths, limits.lows, ends)
    if source is None:
        return Limits(limits.paths, raised(limits.lows, value, limits.paths[target]), limits.ends)
    onward = [None if more is None else gain + more for more in limits.paths[target]]
    paths = [row if row[source] is None else raised(row, row[source], onward) for row in limits.paths]
    least = limits.lows[source]
    lows = limits.lows if least is None else raised(limits.lows, least, onward)
    return Limits(paths, lows, limits.ends)


def raised(row, value, gains):
    """The greater ones of what is known of each column and of a value that leads to it by these gains."""
    return [greater(old, reach(value, gain)) for old, gain in zip(row, gains)]


def breaks_end(limits, column, least):
    """Whether a column that is at least this value makes some column reach what it is less than."""
    for gain, end in zip(limits.paths[column], limits.ends):
        if gain is not None and end is not None and shifted(least, gain) >= end:
            return True
    return False


def contradicts(limits, bound):
    """Whether a bound makes a ring together with those that the limits know."""
    source, target, gain, value = bound
    if target is None:
        return limits.lows[source] is not None and limits.lows[source] >= value
    if source is None:
        return breaks_end(limits, target, value)
    back = limits.paths[target][source]
    if back is not None and back + gain > 0:
        return True
    least = limits.lows[source]
    return least is not None and breaks_end(limits, target, shifted(least, gain))
