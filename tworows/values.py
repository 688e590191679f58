"""Names of columns, the two kinds of values, and the order of places."""

# The 94 characters of a text in the order of their codes.
SIGNS = " !\"#$&'()*+,-./0123456789:;<=>?@ABCDEFGHIJKLMNOPQRSTUVWXYZ[\\]^_`abcdefghijklmnopqrstuvwxyz{|}~"
LETTERS = "abcdefghijklmnopqrstuvwxyz"
NAME_SIGNS = "abcdefghijklmnopqrstuvwxyz0123456789"
LONGEST_NAME = 8
# The words of the texts of tests, which would be unclear with such names.
WORDS = ("and", "or", "not", "sure", "in", "is", "empty", "begins", "always", "never")


def is_integer(thing):
    """Whether a thing is an integer; True and False are none."""
    return isinstance(thing, int) and not isinstance(thing, bool)


def is_sequence(thing):
    """Whether a thing is a list or a tuple."""
    return isinstance(thing, (list, tuple))


def is_worded(thing):
    """Whether a thing is a sequence with a string first, which can be looked up among words."""
    # Comparing bytes with strings may warn, and a list cannot be looked up in a dict.
    return is_sequence(thing) and len(thing) > 0 and isinstance(thing[0], str)


def is_text(thing):
    """Whether a thing is a string of the 94 characters alone."""
    if not isinstance(thing, str):
        return False
    return all([sign in SIGNS for sign in thing])


def is_name(thing):
    """Whether a thing may be the name of a column."""
    if not isinstance(thing, str):
        return False
    if len(thing) == 0 or len(thing) > LONGEST_NAME:
        return False
    if thing[0] not in LETTERS or thing in WORDS:
        return False
    return all([sign in NAME_SIGNS for sign in thing])


def kind_of(value):
    """The kind of a value, or None for a thing that is no value."""
    if is_integer(value):
        return "number"
    if is_text(value):
        return "text"
    return None


def is_value(kind, thing):
    """Whether a thing is a value of a kind."""
    return kind_of(thing) == kind


def is_ahead(one, other):
    """Whether one place, a value or None, is ahead of another one of its kind."""
    if other is None:
        return False
    if one is None:
        return True
    return one < other


def next_value(value):
    """The least value of the same kind that is greater."""
    if isinstance(value, str):
        return value + SIGNS[0]
    return value + 1


def up(text):
    """The least text greater than all that begin with a text, or None."""
    # The last character has no next one, so it cannot be made greater.
    kept = text.rstrip(SIGNS[-1])
    if kept == "":
        return None
    at = SIGNS.find(kept[-1])
    return kept[:-1] + SIGNS[at + 1]
