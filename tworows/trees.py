"""Trees of cases and their leaves: what shows that no row of a shape meets some wants."""

from tworows.basics import basics, formula, ordered_atoms
from tworows.bounds import bound_of, shifted
from tworows.masks import ALL, FALSE, KNOWN, TRUE, UNKNOWN, flattened, truth_bit, truths_in, weighed
from tworows.shapes import need_test
from tworows.values import is_integer, is_name, is_value
from tworows.wants import conditions, need_wants, wanted_atoms


class Known:
    """What a way tells of a row: the truths of its atoms, and which columns are empty or not."""

    def __init__(self, shape, way):
        # Of several steps of one atom the first decides, so it is written last.
        self.truths = {step[0]: truth_bit(step[1]) for step in reversed(list(way))}
        self.empties = {column: True for step in way for column in made_empty(step)}
        fulls = [column for step in way for column in made_full(step)]
        self.fulls = {column: True for column in filled_columns(shape) + fulls}


def filled_columns(shape):
    """The names of the filled columns."""
    return [name for name, _, filled in shape.layout if filled]


def columns_in(atom):
    """The columns of a basic atom."""
    if atom[0] == "under":
        return [atom[1], atom[2]]
    return [atom[1]]


def made_empty(step):
    """The columns that a step makes known to be empty."""
    atom, truth = step
    if (atom[0] == "empty" and truth is True) or (atom[0] == "below" and truth is None):
        return columns_in(atom)
    return []


def made_full(step):
    """The columns that a step makes known to be not empty."""
    atom, truth = step
    if truth is None or (atom[0] == "empty" and truth):
        return []
    return columns_in(atom)


def possible_mask(known, atom):
    """The mask of the truths that a basic atom may have in a known."""
    if atom in known.truths:
        return known.truths[atom]
    columns = columns_in(atom)
    if any([column in known.empties for column in columns]):
        return TRUE if atom[0] == "empty" else UNKNOWN
    if all([column in known.fulls for column in columns]):
        return FALSE if atom[0] == "empty" else KNOWN
    return KNOWN if atom[0] == "empty" else ALL


def possible(shape, test, way):
    """The truths that a test may have after a way, in the order True, False, None."""
    need_test(shape, test)
    atoms = basics(test)
    nodes = flattened(formula(test), {atom: at for at, atom in enumerate(atoms)}, 0)
    known = Known(shape, way)
    masks = weighed(nodes, [possible_mask(known, atom) for atom in atoms])
    return truths_in(masks[-1])


class Question:
    """Which row of a shape is asked for: the basic atoms, and what each want and check may be."""

    def __init__(self, shape, wants):
        self.shaped = shape
        self.facts = ordered_atoms(wanted_atoms(shape, wants))
        self.demands = conditions(shape, wants, {atom: at for at, atom in enumerate(self.facts)})


def missed_holds(question, way):
    """Whether a want or a check has no truth that it may have after a way."""
    known = Known(question.shaped, way)
    held = [possible_mask(known, atom) for atom in question.facts]
    for nodes, need in question.demands:
        if weighed(nodes, held)[-1] & need == 0:
            return True
    return False


def is_step(way, thing):
    """Whether a thing is the number of a step."""
    return is_integer(thing) and 0 <= thing and thing < len(way)


def pair_holds(shape, way, one, other):
    """Whether a step makes a column empty that another one, or the shape, makes not empty."""
    if not is_step(way, one):
        return False
    if is_integer(other) and other == -1:
        fulls = filled_columns(shape)
    elif is_step(way, other):
        fulls = made_full(way[other])
    else:
        return False
    return any([column in fulls for column in made_empty(way[one])])


def open_holds(shape, way, one):
    """Whether a step leaves a comparison open of two columns that are not empty."""
    if not is_step(way, one):
        return False
    atom, truth = way[one]
    fulls = Known(shape, way).fulls
    return atom[0] == "under" and truth is None and all([column in fulls for column in columns_in(atom)])


def ring_holds(way, steps):
    """Whether the bounds of steps contradict one another."""
    if not isinstance(steps, tuple) or len(steps) == 0 or not all([is_step(way, step) for step in steps]):
        return False
    bounds = [bound_of(way[step][0], way[step][1]) for step in steps]
    if any([bound is None for bound in bounds]):
        return False
    for one, other in zip(bounds, bounds[1:]):
        if one[1] is None or one[1] != other[0]:
            return False
    return chain_holds(bounds)


def chain_holds(bounds):
    """Whether bounds of which each leads to the next one contradict one another."""
    first, last = bounds[0], bounds[-1]
    if last[1] is None:
        end = last[3]
        if first[0] is not None and is_integer(end):
            return False
        least = first[3] if first[0] is None else ""
        for bound in bounds:
            least = shifted(least, bound[2])
        return least >= end
    return first[0] == last[1] and sum([bound[2] for bound in bounds]) > 0


def is_right_leaf(question, way, leaf):
    """Whether a thing is a leaf that holds after a way."""
    # Only strings are compared with words: comparing bytes with strings may warn.
    if not isinstance(leaf, tuple) or len(leaf) == 0 or not isinstance(leaf[0], str):
        return False
    if leaf[0] == "missed":
        return len(leaf) == 1 and missed_holds(question, way)
    if leaf[0] == "pair":
        return len(leaf) == 3 and pair_holds(question.shaped, way, leaf[1], leaf[2])
    if leaf[0] == "open":
        return len(leaf) == 2 and open_holds(question.shaped, way, leaf[1])
    return leaf[0] == "ring" and len(leaf) == 2 and ring_holds(way, leaf[1])


def leaf_holds(shape, wants, way, leaf):
    """Whether a leaf says rightly why no row that meets the wants has the truths of a way."""
    need_wants(shape, wants)
    return is_right_leaf(Question(shape, wants), list(way), leaf)


def is_atom(shape, thing):
    """Whether a thing is a basic atom over the columns of a shape."""
    if not isinstance(thing, tuple) or len(thing) < 2 or not isinstance(thing[0], str):
        return False
    if not is_name(thing[1]) or thing[1] not in shape.spots:
        return False
    if thing[0] == "empty":
        return len(thing) == 2
    kind = shape.spots[thing[1]][1]
    if thing[0] == "below":
        return len(thing) == 3 and is_value(kind, thing[2])
    return thing[0] == "under" and len(thing) == 4 and is_other(shape, kind, thing)


def is_other(shape, kind, thing):
    """Whether the second column and the integer of an under atom stand rightly beside its first column."""
    if not is_name(thing[2]) or thing[2] not in shape.spots or thing[2] == thing[1]:
        return False
    if shape.spots[thing[2]][1] != kind or not is_integer(thing[3]):
        return False
    return kind == "number" or thing[3] == 0 or thing[3] == 1


def is_node(shape, thing):
    """Whether a thing is no leaf but stands at the top of a tree, as far as can be seen without its branches."""
    if not isinstance(thing, tuple) or len(thing) != 5 or not isinstance(thing[0], str) or thing[0] != "atom":
        return False
    if not is_atom(shape, thing[1]):
        return False
    return thing[1][0] != "empty" or (isinstance(thing[4], tuple) and len(thing[4]) == 0)


def branches(node, way):
    """The branches of a tree with the ways to them."""
    atom = node[1]
    found = [(node[2], way + [(atom, True)]), (node[3], way + [(atom, False)])]
    if atom[0] != "empty":
        found.append((node[4], way + [(atom, None)]))
    return found


def shows_none(shape, wants, tree):
    """Whether a thing is a tree of which every leaf holds, so that no row of the shape meets the wants."""
    need_wants(shape, wants)
    question = Question(shape, wants)
    rest = [(tree, [])]
    while len(rest) > 0:
        thing, way = rest.pop()
        if is_node(shape, thing):
            rest.extend(branches(thing, way))
        elif not is_right_leaf(question, way, thing):
            return False
    return True
