"""A desk: the rules of a small shape under change, with watched claims and deeds that are told by lines of text."""

from tworows.errors import BadShape, BadText, TooMany
from tworows.moves import cheapest, moved
from tworows.pairs import claim_holds, need_claim_in, need_small
from tworows.plans import STEP_SIZES
from tworows.reading import DIGITS
from tworows.rules import bare, is_own_rule, own_rules, with_rules
from tworows.texts import claim_text, need_string, plan_text, read_claim, read_plan, read_rule
from tworows.values import is_name

MOST_CLAIMS = 6


class Desk:
    """A shape with watched claims.

    past has the shapes that can be brought back, the last one last, and future
    those that were taken back, the last one first. claims has the watched
    claims, each with True or False as it is now.
    """

    def __init__(self, shape):
        need_small(shape)
        self.now = shape
        self.past = ()
        self.future = ()
        self.claims = ()

    def shape(self):
        """The shape as it is now."""
        return self.now

    def add_rule(self, rule):
        """Add a rule and tell which watched claims are another way then."""
        return self._moved(with_rules(self.now, [rule]), self.past + (self.now,), ())

    def drop_rule(self, name):
        """Take away one of the shape's own rules and tell which watched claims are another way then."""
        if not is_own_rule(self.now, name):
            raise BadShape("rules", 0)
        left = bare(self.now, [other for other in own_rules(self.now) if other != name])
        return self._moved(left, self.past + (self.now,), ())

    def undo(self):
        """Take back the last add or drop, or tell None."""
        if len(self.past) == 0:
            return None
        return self._moved(self.past[-1], self.past[:-1], (self.now,) + self.future)

    def redo(self):
        """Do again what was taken back last, or tell None."""
        if len(self.future) == 0:
            return None
        return self._moved(self.future[0], self.past + (self.now,), self.future[1:])

    def watch(self, claim):
        """Whether a claim holds now; it is watched from then on."""
        wanted = need_claim_in(self.now, claim)
        for known, holds in self.claims:
            if known == wanted:
                return holds
        if len(self.claims) >= MOST_CLAIMS:
            raise TooMany(MOST_CLAIMS)
        holds = holds_in(self.now, wanted)
        self.claims = self.claims + ((wanted, holds),)
        return holds

    def watched(self):
        """The watched claims, each with True or False as it is now."""
        return list(self.claims)

    def asked(self, claim):
        """The decision whether a claim holds now."""
        return claim_holds(self.now, claim)

    def do_line(self, text):
        """Do what a line says and tell lines."""
        need_string(text)
        if text == "undo":
            return self._told(self.undo())
        if text == "redo":
            return self._told(self.redo())
        word, _, rest = text.partition(" ")
        if word == "drop":
            return self._told(self.drop_rule(rule_of_line(self.now, rest)))
        # Only a plan may have an empty text.
        if word == "plan" and text != word:
            return plan_lines(self.now, read_plan(rest))
        if word == "add":
            return self._told(self.add_rule(read_rule(rest)))
        if word == "watch":
            return [verdict(self.watch(read_claim(rest)))]
        if word == "ask":
            return [verdict(self.asked(read_claim(rest))[0] == "always")]
        raise BadText(0)

    def _moved(self, shape, past, future):
        """Change the shape and tell the changes of the watched claims."""
        claims = tuple([(claim, holds_in(shape, claim)) for claim, _ in self.claims])
        pairs = list(zip(self.claims, claims))
        changes = [(at, new[1]) for at, (old, new) in enumerate(pairs) if old[1] != new[1]]
        self.now = shape
        self.past = past
        self.future = future
        self.claims = claims
        return changes

    def _told(self, changes):
        """The lines of the changes of watched claims."""
        if changes is None:
            return ["nothing"]
        return [f"{verdict(holds)}: {claim_text(self.claims[at][0])}" for at, holds in changes]


def holds_in(shape, claim):
    """Whether a claim holds in a shape."""
    return claim_holds(shape, claim)[0] == "always"


def verdict(holds):
    """The word for a claim that holds, or does not."""
    return "holds" if holds else "breaks"


def is_index_text(text):
    """Whether a text is an index in digits without a leading zero."""
    if text == "" or not all([sign in DIGITS for sign in text]):
        return False
    return text == "0" or text[0] != "0"


def rule_of_line(shape, text):
    """The name of the rule of the shape that stands behind drop."""
    for name in own_rules(shape):
        if text == f"{name[0]} {name[1]}":
            return name
    word, _, thing = text.partition(" ")
    if (word == "filled" and is_name(thing)) or (word in ("check", "key") and is_index_text(thing)):
        raise BadShape("rules", 0)
    raise BadText(0)


def plan_lines(shape, plan):
    """The texts of plans, from a plan by one move each to the cheapest one if each step costs 1."""
    _, _, steps = cheapest(shape, plan, {word: 1 for word in STEP_SIZES})
    lines = [plan_text(plan)]
    for move in steps:
        plan = moved(plan, move)
        lines.append(plan_text(plan))
    return lines
