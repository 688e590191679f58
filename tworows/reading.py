"""Reading tests, names, orders and claims from a place of a text on.

Each function takes a text and a place in it. It returns what stands there and
the place behind it, and raises BadText(0) if nothing of the kind stands there.
What it reads may have been written in another way, with further brackets say:
so whoever calls it compares the text of what was read with the text.
"""

from tworows.errors import BadText
from tworows.logic import MOST_LEVELS, OPS, against, always, among, begins, compare, empty, never, sure
from tworows.values import LETTERS, NAME_SIGNS, is_name

DIGITS = "0123456789"
MOST_DIGITS = 1000


def span_at(text, at, signs):
    """The signs of a sort that stand from a place on, and the place behind them."""
    start = at
    while at < len(text) and text[at] in signs:
        at += 1
    return (text[start:at], at)


def behind(text, at, word):
    """The place behind a word that must stand at a place."""
    if not text.startswith(word, at):
        raise BadText(0)
    return at + len(word)


def name_at(text, at):
    """The name of a column."""
    name, at = span_at(text, at, NAME_SIGNS)
    if not is_name(name):
        raise BadText(0)
    return (name, at)


def number_at(text, at):
    """A number."""
    sign, at = span_at(text, at, "-")
    digits, at = span_at(text, at, DIGITS)
    if len(sign) > 1 or digits == "" or len(digits) > MOST_DIGITS:
        raise BadText(0)
    number = int(digits)
    return (-number if sign == "-" else number, at)


def quoted_at(text, at):
    """A text between double quotes."""
    at = behind(text, at, '"')
    signs = []
    while at < len(text) and text[at] != '"':
        if text[at] == "\\":
            at += 1
        signs.append(text[at : at + 1])
        at += 1
    return ("".join(signs), behind(text, at, '"'))


def value_at(text, at):
    """A number or a text."""
    if text.startswith('"', at):
        return quoted_at(text, at)
    return number_at(text, at)


def values_at(text, at):
    """The values of an among, with the brackets around them."""
    value, at = value_at(text, behind(text, at, "("))
    values = [value]
    while text.startswith(", ", at):
        value, at = value_at(text, at + 2)
        values.append(value)
    return (values, behind(text, at, ")"))


def more_at(text, at):
    """What is added to the second column of an against."""
    if text.startswith(" + ", at):
        return number_at(text, at + 3)
    if text.startswith(" - ", at):
        more, at = number_at(text, at + 3)
        return (-more, at)
    return (0, at)


def related_at(text, at, column):
    """A compare or an against of a column, from the operator on."""
    op, at = span_at(text, at, "<=>!")
    if op not in OPS:
        raise BadText(0)
    at = behind(text, at, " ")
    if at < len(text) and text[at] in LETTERS:
        other, at = name_at(text, at)
        more, at = more_at(text, at)
        return (against(column, op, other, more=more), at)
    value, at = value_at(text, at)
    return (compare(column, op, value), at)


def atom_at(text, at):
    """An atomic test."""
    word, at = span_at(text, at, NAME_SIGNS)
    if word == "always":
        return (always(), at)
    if word == "never":
        return (never(), at)
    if not is_name(word):
        raise BadText(0)
    at = behind(text, at, " ")
    if text.startswith("is empty", at):
        return (empty(word), at + 8)
    if text.startswith("in ", at):
        values, at = values_at(text, at + 3)
        return (among(word, values), at)
    if text.startswith("begins ", at):
        prefix, at = quoted_at(text, at + 7)
        return (begins(word, prefix), at)
    return related_at(text, at, word)


def part_at(text, at, depth):
    """A test that is no and and no or, or stands between brackets; depth is how much encloses it."""
    # In the text of a test whatever encloses a part is one of its levels, so no deeper text needs to be read.
    if depth > MOST_LEVELS:
        raise BadText(0)
    if text.startswith("not ", at):
        inner, at = part_at(text, at + 4, depth + 1)
        return (~inner, at)
    if text.startswith("sure ", at):
        inner, at = part_at(text, at + 5, depth + 1)
        return (sure(inner), at)
    if text.startswith("(", at):
        inner, at = test_at(text, at + 1, depth + 1)
        return (inner, behind(text, at, ")"))
    return atom_at(text, at)


def parts_at(text, at, depth):
    """A test without an or outside of brackets."""
    test, at = part_at(text, at, depth)
    while text.startswith(" and ", at):
        other, at = part_at(text, at + 5, depth)
        test = test & other
    return (test, at)


def test_at(text, at, depth):
    """A test; BadTest if it cannot be made."""
    test, at = parts_at(text, at, depth)
    while text.startswith(" or ", at):
        other, at = parts_at(text, at + 4, depth)
        test = test | other
    return (test, at)


def where_at(text, at):
    """The test behind the word where."""
    return test_at(text, behind(text, at, " where "), 0)


def names_at(text, at):
    """One or more names."""
    name, at = name_at(text, at)
    names = [name]
    while text.startswith(", ", at):
        name, at = name_at(text, at + 2)
        names.append(name)
    return (names, at)


def listed_at(text, at):
    """Names with the brackets around them; perhaps none."""
    if text.startswith("()", at):
        return ([], at + 2)
    names, at = names_at(text, behind(text, at, "("))
    return (names, behind(text, at, ")"))


def ordered_at(text, at):
    """A part of an order."""
    name, at = name_at(text, at)
    direction, at = span_at(text, behind(text, at, " "), LETTERS)
    return ((name, direction), at)


def order_at(text, at):
    """The parts of an order."""
    part, at = ordered_at(text, at)
    parts = [part]
    while text.startswith(", ", at):
        part, at = ordered_at(text, at + 2)
        parts.append(part)
    return (parts, at)


def tells_at(text):
    """The claim that some columns tell others, which begins with a bracket."""
    names, at = listed_at(text, 0)
    others, at = listed_at(text, behind(text, at, " tell "))
    test, at = where_at(text, at)
    return ("tells", test, names, others)


def follows_at(text):
    """The claim that one order gives another one."""
    order, at = order_at(text, behind(text, 0, "order ("))
    other, at = order_at(text, behind(text, at, ") gives ("))
    test, at = where_at(text, behind(text, at, ")"))
    return ("follows", test, order, other)


def claim_at(text):
    """The claim at the beginning of a text, whatever stands behind it."""
    if text.startswith("("):
        return tells_at(text)
    if text.startswith("order "):
        return follows_at(text)
    if text.startswith("always "):
        other, at = test_at(text, 7, 0)
        return ("within", where_at(text, at)[0], other)
    if text.startswith("constant "):
        name, at = name_at(text, 9)
        return ("constant", where_at(text, at)[0], name)
    if text.startswith("apart "):
        names, at = listed_at(text, 6)
        return ("apart", where_at(text, at)[0], names)
    if text.startswith("at most one "):
        return ("at_most_one", where_at(text, 11)[0])
    return ("never", where_at(text, behind(text, 0, "never"))[0])
