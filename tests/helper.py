"""What several test files need: odd things to hand in, and one way to look at an error."""

from tworows.errors import BadRow, RowsError
from tworows.logic import compare


def nested_list(depth):
    """A list in a list in a list, too deep for anything that recurses."""
    thing = []
    for _ in range(depth):
        thing = [thing]
    return thing


def endless_list():
    """A list that contains itself."""
    thing = []
    thing.append(thing)
    return thing


def odd_things():
    """One thing of each sort that is no name, no value, no operator, no dict and no test."""
    return [
        None, True, False, [], (), [1], ("a",), set(), {1}, frozenset(), b"", b"a", b"<", bytearray(b"a"),
        memoryview(b"a"), 1j, range(2), slice(1), object(), int, len, Ellipsis, NotImplemented, iter([]),
        (n for n in ()), lambda: 1, nested_list(100000), endless_list(), BadRow("a"), BadRow, ValueError("a"),
    ]


def some_test():
    """A test where nothing of a test is wanted."""
    return compare("a", "<", 1)


class Refusals:
    """Mixed into a test case: a call that is refused, and with what."""

    def refused(self, kind, told, call, *given, **named):
        """The call raises exactly this error, with exactly these attributes."""
        with self.assertRaises(RowsError) as caught:
            call(*given, **named)
        self.assertIs(type(caught.exception), kind)
        self.assertEqual(vars(caught.exception), told)
