"""The basic atoms of a test, and the formula over them that says the same.

A formula is ("is", atom), ("always",), ("never",), or one of the words "and",
"or", "not" and "sure" with the formulas of its parts behind it.
"""

from tworows.values import is_integer, next_value, up


def below(column, value):
    """The formula: column < value."""
    return ("is", ("below", column, value))


def under(column, other, more):
    """The formula: column < other + more."""
    return ("is", ("under", column, other, more))


def related_formula(op, less, most):
    """What an operator says, from the formulas that say < and <=."""
    if op == "<":
        return less
    if op == "<=":
        return most
    if op == ">":
        return ("not", most)
    if op == ">=":
        return ("not", less)
    equal = ("and", most, ("not", less))
    if op == "==":
        return equal
    return ("not", equal)


def compare_formula(column, op, value):
    """The formula: column OP value."""
    return related_formula(op, below(column, value), below(column, next_value(value)))


def against_formula(column, other, op, more):
    """The formula: column OP other + more."""
    return related_formula(op, under(column, other, more), under(column, other, more + 1))


def among_formula(column, values):
    """The formula that the column has one of the values."""
    joined = compare_formula(column, "==", values[0])
    for value in values[1:]:
        joined = ("or", joined, compare_formula(column, "==", value))
    return joined


def begins_formula(column, prefix):
    """The formula that the text in the column begins with the prefix."""
    reached = ("not", below(column, prefix))
    end = up(prefix)
    if end is None:
        return reached
    return ("and", reached, below(column, end))


def formula(test):
    """The formula of a test."""
    if len(test.inner) > 0:
        return (test.word,) + tuple([formula(part) for part in test.inner])
    if test.word == "compare":
        return compare_formula(test.fields[0], test.terms[0], test.terms[1])
    if test.word == "against":
        return against_formula(test.fields[0], test.fields[1], test.terms[0], test.terms[1])
    if test.word == "among":
        return among_formula(test.fields[0], test.terms)
    if test.word == "begins":
        return begins_formula(test.fields[0], test.terms[0])
    if test.word == "empty":
        return ("is", ("empty", test.fields[0]))
    return (test.word,)


def formula_atoms(one):
    """The basic atoms of a formula from left to right, as often as they occur."""
    if one[0] == "is":
        return [one[1]]
    return [atom for part in one[1:] for atom in formula_atoms(part)]


def mark(atom):
    """What a basic atom is sorted by; numbers and texts cannot be compared with each other."""
    if atom[0] != "below":
        return atom
    if is_integer(atom[2]):
        return ("below", atom[1], 0, atom[2])
    return ("below", atom[1], 1, atom[2])


def unmarked(key):
    """The basic atom that is sorted by this key."""
    if key[0] != "below":
        return key
    return ("below", key[1], key[3])


def ordered_atoms(atoms):
    """Basic atoms in ascending order, each once."""
    marks = [mark(atom) for atom in atoms]
    return [unmarked(key) for key in sorted(set(marks))]


def basics(test):
    """The basic atoms of a test in ascending order, each once."""
    return ordered_atoms(formula_atoms(formula(test)))


def moved_by(value, more):
    """The value that a column is below if it is under one with this value."""
    if is_integer(value):
        return value + more
    if more == 0:
        return value
    return next_value(value)


def basic_truth(atom, row):
    """The truth of a basic atom at a row that has its columns."""
    held = row[atom[1]]
    if atom[0] == "empty":
        return held is None
    if held is None:
        return None
    if atom[0] == "below":
        return held < atom[2]
    other = row[atom[2]]
    if other is None:
        return None
    return held < moved_by(other, atom[3])
