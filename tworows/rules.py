"""Rules of a shape: adding and leaving out some, and the least sets of them that make a claim hold."""

from tworows.errors import BadClaim, BadShape, TooMany
from tworows.pairs import MOST_SMALL_RULES, claim_holds, need_claim_in, need_small
from tworows.scopes import has_part, index_sets
from tworows.shapes import Shape, fits, is_key, may_stand
from tworows.values import is_integer, is_name, is_sequence, is_worded

MOST_CANDIDATES = 6


def is_rule(shape, thing):
    """Whether a thing is a rule of the shape."""
    if not is_worded(thing) or len(thing) != 2:
        return False
    if thing[0] == "check":
        return fits(shape, thing[1])
    if thing[0] == "key":
        return is_key(shape.spots, thing[1])
    return thing[0] == "filled" and is_name(thing[1]) and thing[1] in shape.spots


def need_rules(shape, rules):
    """Refuse an item that is no rule of the shape."""
    for at, rule in enumerate(rules):
        if not is_rule(shape, rule):
            raise BadShape("rules", at)


def of_word(rules, word):
    """What stands behind a word in rules."""
    return [rule[1] for rule in rules if rule[0] == word]


def with_rules(shape, rules):
    """The shape with further rules, if that is a small one."""
    if not is_sequence(rules):
        raise BadShape("rules", -1)
    need_rules(shape, rules)
    named = of_word(rules, "filled")
    columns = [(name, kind, filled or name in named) for name, kind, filled in shape.columns()]
    checks = shape.checks() + of_word(rules, "check")
    keys = shape.unique_keys() + of_word(rules, "key")
    # More rules than a small shape has may be more than any shape may have.
    if len(checks) > MOST_SMALL_RULES or len(keys) > MOST_SMALL_RULES:
        raise BadClaim("shape")
    wider = Shape(columns, checks=checks, keys=keys)
    need_small(wider)
    return wider


def own_rules(shape):
    """The names of the rules that a shape has."""
    filled = [("filled", name) for name in shape.names() if shape.filled(name)]
    checks = [("check", at) for at in range(len(shape.checks()))]
    return filled + checks + [("key", at) for at in range(len(shape.unique_keys()))]


def is_own_rule(shape, thing):
    """Whether a thing is the name of a rule that the shape has."""
    if not isinstance(thing, tuple) or len(thing) != 2 or not is_worded(thing):
        return False
    # True would be taken for 1.
    return (is_integer(thing[1]) or is_name(thing[1])) and thing in own_rules(shape)


def bare(shape, kept):
    """The shape with those of its own rules alone that are kept."""
    if not is_sequence(kept):
        raise BadShape("rules", -1)
    for at, name in enumerate(kept):
        if not is_own_rule(shape, name) or name in kept[:at]:
            raise BadShape("rules", at)
    columns = [(name, kind, ("filled", name) in kept) for name, kind, _ in shape.columns()]
    checks = [test for at, test in enumerate(shape.checks()) if ("check", at) in kept]
    keys = [key for at, key in enumerate(shape.unique_keys()) if ("key", at) in kept]
    return Shape(columns, checks=checks, keys=keys)


def chosen_rules(rules, chosen):
    """The rules at some indexes."""
    return [rules[at] for at in chosen]


def rules_kept(shape, rules, rows):
    """The indexes of the rules that a table of the shape keeps."""
    return [at for at, rule in enumerate(rules) if may_stand(with_rules(shape, [rule]), rows)]


def least_sets(shape, rules, claim):
    """The least sets of indexes of rules with which the claim holds, shorter ones first.

    It is decided with all rules first. So a refusal of these, or of too many
    basic atoms, is ahead of all else.
    """
    word, told = claim_holds(with_rules(shape, rules), claim)
    if word == "rows":
        return []
    found = []
    refuted = []
    for size in range(len(rules) + 1):
        for chosen in index_sets(len(rules), size):
            # Rows that broke the claim break it with all rules that they keep.
            if not has_part(chosen, found) and not any([has_part(kept, [chosen]) for kept in refuted]):
                word, told = claim_holds(with_rules(shape, chosen_rules(rules, chosen)), claim)
                if word == "always":
                    found.append(chosen)
                else:
                    refuted.append(rules_kept(shape, rules, told))
    return found


def mends(shape, claim, candidates):
    """The least sets of candidates, by their indexes, with which the claim holds."""
    need_claim_in(shape, claim)
    if not is_sequence(candidates):
        raise BadShape("rules", -1)
    if len(candidates) > MOST_CANDIDATES:
        raise TooMany(MOST_CANDIDATES)
    return least_sets(shape, candidates, claim)


def rule_named(shape, name):
    """The rule of the shape that has this name."""
    word, at = name
    if word == "check":
        return ("check", shape.checks()[at])
    if word == "key":
        return ("key", shape.unique_keys()[at])
    return name


def needed_rules(shape, claim):
    """The least sets of the shape's own rules, by their names, with which alone the claim holds."""
    need_claim_in(shape, claim)
    own = own_rules(shape)
    found = least_sets(bare(shape, []), [rule_named(shape, name) for name in own], claim)
    return [chosen_rules(own, chosen) for chosen in found]
