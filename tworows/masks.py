"""Sets of truths, and what they come to in a formula.

A set of truths is a number, its mask: the sum of the bits of its truths. A
formula is flattened into a list of nodes (word, first, second), in which the
parts of a node stand ahead of it and are named by their places in the list.
The first of a node "is" is the place of its atom in a list of masks of atoms.
"""

TRUE = 1
FALSE = 2
UNKNOWN = 4
KNOWN = 3
NOT_FALSE = 5
NOT_TRUE = 6
ALL = 7
BITS = (1, 2, 4)
# The mask of the opposite truths, for each mask.
OPPOSITE = (0, 2, 1, 3, 4, 6, 5, 7)


def truth_bit(truth):
    """The bit of a truth."""
    if truth is None:
        return UNKNOWN
    return TRUE if truth else FALSE


def mask_of(truths):
    """The mask of different truths."""
    return sum([truth_bit(truth) for truth in truths])


def truths_in(mask):
    """The truths of a mask as a tuple, in the order True, False, None."""
    return tuple([truth for truth in (True, False, None) if mask & truth_bit(truth)])


def and_mask(one, other):
    """The truths that an and may have whose parts may have these."""
    found = (one & other & TRUE) | ((one | other) & FALSE)
    if (one & UNKNOWN and other & NOT_FALSE) or (other & UNKNOWN and one & NOT_FALSE):
        return found | UNKNOWN
    return found


def or_mask(one, other):
    """The truths that an or may have whose parts may have these."""
    return OPPOSITE[and_mask(OPPOSITE[one], OPPOSITE[other])]


def sure_mask(one):
    """The truths that a sure may have whose part may have these."""
    if one & NOT_TRUE:
        return one & TRUE | FALSE
    return one


def and_side(other, need):
    """The truths of a part with which an and may have a truth of need, if the other part may have these."""
    found = need & FALSE
    if other & need:
        found = found | TRUE
    if other & need & FALSE or (need & UNKNOWN and other & NOT_FALSE):
        found = found | UNKNOWN
    return found


def or_side(other, need):
    """The truths of a part with which an or may have a truth of need, if the other part may have these."""
    return OPPOSITE[and_side(OPPOSITE[other], OPPOSITE[need])]


def sure_side(need):
    """The truths of a part with which a sure has a truth of need."""
    if need & FALSE:
        return need & TRUE | NOT_TRUE
    return need & TRUE


def flattened(one, places, start):
    """The nodes of a formula, numbered from start; places are those of the atoms."""
    if one[0] == "is":
        return [("is", places[one[1]], -1)]
    if len(one) == 1:
        return [(one[0], -1, -1)]
    first = flattened(one[1], places, start)
    middle = start + len(first)
    if len(one) == 2:
        return first + [(one[0], middle - 1, -1)]
    second = flattened(one[2], places, middle)
    return first + second + [(one[0], middle - 1, middle + len(second) - 1)]


def weighed(nodes, held):
    """The masks of all nodes, from the masks of the atoms; the last one is that of the formula."""
    masks = []
    for word, first, second in nodes:
        if word == "is":
            masks.append(held[first])
        elif word == "and":
            masks.append(and_mask(masks[first], masks[second]))
        elif word == "or":
            masks.append(or_mask(masks[first], masks[second]))
        elif word == "not":
            masks.append(OPPOSITE[masks[first]])
        elif word == "sure":
            masks.append(sure_mask(masks[first]))
        else:
            masks.append(TRUE if word == "always" else FALSE)
    return masks


def narrowed(nodes, masks, need):
    """For each occurrence of an atom its place and the truths with which the formula may have a truth of need.

    The masks are those of the nodes. Each occurrence is looked at for itself:
    the others may have all of their truths.
    """
    found = []
    needs = [need] * len(nodes)
    for at in reversed(range(len(nodes))):
        word, first, second = nodes[at]
        if word == "is":
            found.append((first, needs[at]))
        elif word == "and":
            needs[first] = and_side(masks[second], needs[at])
            needs[second] = and_side(masks[first], needs[at])
        elif word == "or":
            needs[first] = or_side(masks[second], needs[at])
            needs[second] = or_side(masks[first], needs[at])
        elif word == "not":
            needs[first] = OPPOSITE[needs[at]]
        elif word == "sure":
            needs[first] = sure_side(needs[at])
    return found
