"""What several test files need: odd things to hand in, and one way to look at an error."""

from tworows.basics import basic_truth
from tworows.errors import BadRow, RowsError
from tworows.logic import compare


def nested_list(depth):
    """A list in a list in a list, too deep for anything that recurses."""
    thing = []
    for _ in range(depth):
        thing = [thing]
    return thing


def endless_list():
    """A list that contains itself."""
    thing = []
    thing.append(thing)
    return thing


def odd_things():
    """One thing of each sort that is no name, no value, no operator, no dict and no test."""
    return [
        None, True, False, [], (), [1], ("a",), set(), {1}, frozenset(), b"", b"a", b"<", bytearray(b"a"),
        memoryview(b"a"), 1j, range(2), slice(1), object(), int, len, Ellipsis, NotImplemented, iter([]),
        (n for n in ()), lambda: 1, nested_list(100000), endless_list(), BadRow("a"), BadRow, ValueError("a"),
    ]


def some_test():
    """A test where nothing of a test is wanted."""
    return compare("a", "<", 1)


class Refusals:
    """Mixed into a test case: a call that is refused, and with what."""

    def refused(self, kind, told, call, *given, **named):
        """The call raises exactly this error, with exactly these attributes."""
        with self.assertRaises(RowsError) as caught:
            call(*given, **named)
        self.assertIs(type(caught.exception), kind)
        self.assertEqual(vars(caught.exception), told)


def formula_truth(one, row):
    """The truth of a formula of basic atoms at a row, worked out by the words of point [13]."""
    if one[0] == "is":
        return basic_truth(one[1], row)
    truths = [formula_truth(part, row) for part in one[1:]]
    if one[0] == "not":
        return None if truths[0] is None else not truths[0]
    if one[0] == "sure":
        return truths[0] is True
    if one[0] == "and":
        return False if False in truths else None if None in truths else True
    if one[0] == "or":
        return True if True in truths else None if None in truths else False
    return {"always": True, "never": False}[one[0]]


def joined(tests):
    """Tests joined by or, with as few levels as possible."""
    if len(tests) == 1:
        return tests[0]
    half = len(tests) // 2
    return joined(tests[:half]) | joined(tests[half:])
