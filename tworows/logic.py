"""Tests: conditions on one row with the truths True, False and None (unknown)."""

from tworows.errors import BadRow, BadTest
from tworows.values import is_integer, is_name, is_sequence, is_text, kind_of

OPS = ("<", "<=", "==", "!=", ">", ">=")
MOST_VALUES = 8
MOST_ATOMS = 24
MOST_LEVELS = 12


class Test:
    """A test; the functions of this file make it, and it never changes.

    A combined test has the tests that it was made of. An atomic test has the
    columns that it reads and the terms that stand with them in its text.
    """

    def __init__(self, word, inner, fields, terms):
        self.word = word
        self.inner = inner
        self.fields = fields
        self.terms = terms
        self.size = size_of(inner)
        self.depth = depth_of(inner)

    def kind(self):
        """The word that says which sort of test this is."""
        return self.word

    def parts(self):
        """The tests that this one was made of."""
        return list(self.inner)

    def atoms(self):
        """The atomic tests from left to right, as often as they occur."""
        if len(self.inner) == 0:
            return [self]
        return [atom for part in self.inner for atom in part.atoms()]

    def names(self):
        """The names of the columns in ascending order, each once."""
        names = [name for atom in self.atoms() for name in atom.fields]
        return sorted(set(names))

    def levels(self):
        """How many operators and sures enclose one another at most."""
        return self.depth

    def renamed(self, mapping):
        """The same test with the names that a dict gives for its columns."""
        if not isinstance(mapping, dict):
            raise BadTest("column")
        return renamed_by(self, mapping)

    def truth(self, row):
        """The truth of the test at a row."""
        if not isinstance(row, dict):
            raise BadRow(None)
        for name in self.names():
            if name not in row:
                raise BadRow(name)
        return truth_at(self, row)

    def __and__(self, other):
        if not isinstance(other, Test):
            raise BadTest("part")
        return combined("and", (self, other))

    def __or__(self, other):
        if not isinstance(other, Test):
            raise BadTest("part")
        return combined("or", (self, other))

    def __invert__(self):
        return combined("not", (self,))

    def __eq__(self, other):
        return (
            isinstance(other, Test)
            and self.word == other.word
            and self.fields == other.fields
            and self.terms == other.terms
            and self.inner == other.inner
        )

    def __str__(self):
        return str(text_of(self))


def size_of(inner):
    """The number of atomic tests of a test with these parts."""
    if len(inner) == 0:
        return 1
    return sum([part.size for part in inner])


def depth_of(inner):
    """The number of levels of a test with these parts."""
    depth = 0
    for part in inner:
        if part.depth >= depth:
            depth = part.depth + 1
    return depth


def combined(word, inner):
    """The test of these parts, if it is neither too large nor too deep."""
    test = Test(word, inner, (), ())
    if test.size > MOST_ATOMS:
        raise BadTest("large")
    if test.depth > MOST_LEVELS:
        raise BadTest("deep")
    return test


def need_column(thing):
    """Refuse what is no name of a column."""
    if not is_name(thing):
        raise BadTest("column")


def need_op(thing):
    """Refuse what is none of the six operators."""
    # Only strings are looked up: comparing bytes with strings may warn.
    if not isinstance(thing, str) or thing not in OPS:
        raise BadTest("op")


def need_values(thing):
    """Refuse what is no sequence of 1 to 8 values."""
    if not is_sequence(thing) or len(thing) == 0 or len(thing) > MOST_VALUES:
        raise BadTest("value")
    for value in thing:
        if kind_of(value) is None:
            raise BadTest("value")


def compare(column, op, value):
    """The test: column OP value."""
    need_column(column)
    need_op(op)
    if kind_of(value) is None:
        raise BadTest("value")
    return Test("compare", (), (column,), (op, value))


def against(column, op, other, *, more=0):
    """The test: column OP other + more."""
    need_column(column)
    need_op(op)
    need_column(other)
    if other == column:
        raise BadTest("column")
    if not is_integer(more):
        raise BadTest("more")
    return Test("against", (), (column, other), (op, more))


def among(column, values):
    """The test that the column has one of the values."""
    need_column(column)
    need_values(values)
    return Test("among", (), (column,), tuple(values))


def begins(column, prefix):
    """The test that the text in the column begins with the prefix."""
    need_column(column)
    if not is_text(prefix):
        raise BadTest("value")
    return Test("begins", (), (column,), (prefix,))


def empty(column):
    """The test that the column is empty."""
    need_column(column)
    return Test("empty", (), (column,), ())


def always():
    """The test that is True at every row."""
    return Test("always", (), (), ())


def never():
    """The test that is False at every row."""
    return Test("never", (), (), ())


def sure(test):
    """The test that is True where the test is True, and False elsewhere."""
    if not isinstance(test, Test):
        raise BadTest("part")
    return combined("sure", (test,))


def conjuncts(test):
    """The tests that a test joins by and, from left to right."""
    if test.word != "and":
        return [test]
    return conjuncts(test.inner[0]) + conjuncts(test.inner[1])


def renamed_by(test, mapping):
    """The same test with the names of a dict in the place of its own."""
    inner = tuple([renamed_by(part, mapping) for part in test.inner])
    fields = tuple([mapping.get(name, name) for name in test.fields])
    for name in fields:
        need_column(name)
    if len(fields) == 2 and fields[0] == fields[1]:
        raise BadTest("column")
    return Test(test.word, inner, fields, test.terms)


def and_truth(one, other):
    """The truth of two truths joined by and."""
    if one is False or other is False:
        return False
    if one is None or other is None:
        return None
    return True


def or_truth(one, other):
    """The truth of two truths joined by or."""
    if one is True or other is True:
        return True
    if one is None or other is None:
        return None
    return False


def not_truth(one):
    """The opposite of a truth; unknown stays unknown."""
    if one is None:
        return None
    return not one


def combined_truth(word, truths):
    """The truth of a combined test whose parts have these truths."""
    if word == "and":
        return and_truth(truths[0], truths[1])
    if word == "or":
        return or_truth(truths[0], truths[1])
    if word == "not":
        return not_truth(truths[0])
    return truths[0] is True


def truth_at(test, row):
    """The truth of a test at a row that has all its columns."""
    if len(test.inner) == 0:
        return atom_truth(test, row)
    return combined_truth(test.word, [truth_at(part, row) for part in test.inner])


def atom_truth(atom, row):
    """The truth of an atomic test at a row that has all its columns."""
    if atom.word == "always":
        return True
    if atom.word == "never":
        return False
    held = [row[name] for name in atom.fields]
    if atom.word == "empty":
        return held[0] is None
    for value in held:
        if value is None:
            return None
    return values_truth(atom, held)


def values_truth(atom, held):
    """The truth of an atomic test at the values in its columns."""
    if atom.word == "compare":
        return related(held[0], atom.terms[0], atom.terms[1])
    if atom.word == "against":
        return related(held[0], atom.terms[0], moved(held[1], atom.terms[1]))
    if atom.word == "among":
        return held[0] in atom.terms
    return held[0].startswith(atom.terms[0])


def moved(value, more):
    """A value and an integer added; texts are compared with nothing added."""
    if more == 0:
        return value
    return value + more


def related(one, op, other):
    """Whether two values of one kind stand as the operator says."""
    if op == "<":
        return one < other
    if op == "<=":
        return one <= other
    if op == "==":
        return one == other
    if op == "!=":
        return one != other
    if op == ">":
        return one > other
    return one >= other


def text_of(test):
    """The text of a test."""
    if test.word == "and":
        return pair_text(test, ("or",), ("and", "or"))
    if test.word == "or":
        return pair_text(test, (), ("or",))
    if test.word == "not" or test.word == "sure":
        one = part_text(test.inner[0], ("and", "or"))
        return f"{test.word} {one}"
    return atom_text(test)


def pair_text(test, first, second):
    """The text of an and or an or; some kinds of its parts need brackets."""
    one = part_text(test.inner[0], first)
    other = part_text(test.inner[1], second)
    return f"{one} {test.word} {other}"


def part_text(part, words):
    """The text of a part, in brackets if it is of one of these kinds."""
    text = text_of(part)
    if part.word in words:
        return f"({text})"
    return text


def atom_text(atom):
    """The text of an atomic test."""
    if len(atom.fields) == 0:
        return atom.word
    column = atom.fields[0]
    if atom.word == "against":
        return f"{column} {atom.terms[0]} {atom.fields[1]}{more_text(atom.terms[1])}"
    if atom.word == "compare":
        return f"{column} {atom.terms[0]} {value_text(atom.terms[1])}"
    if atom.word == "among":
        texts = ", ".join([value_text(value) for value in atom.terms])
        return f"{column} in ({texts})"
    if atom.word == "begins":
        return f"{column} begins {value_text(atom.terms[0])}"
    return f"{column} is empty"


def more_text(more):
    """What stands behind the second column of an against."""
    if more == 0:
        return ""
    if more < 0:
        return f" - {-more}"
    return f" + {more}"


def value_text(value):
    """The text of a value."""
    if is_integer(value):
        return str(value)
    quoted = value.replace("\\", "\\\\").replace('"', '\\"')
    return f'"{quoted}"'
