"""The refusals: each stands straight under BothError and holds what it was made with."""


class BothError(ValueError):
    """What all refusals stand under."""


class NoPlan(BothError):
    """What makes no plan; field is the first part that isn't so."""

    def __init__(self, field):
        self.field = field


class NoStanding(BothError):
    """What is no standing."""

    def __init__(self, thing):
        self.thing = thing


class NoGood(BothError):
    """A want that no good standing has; paper shows it."""

    def __init__(self, paper):
        self.paper = paper


class Broken(BothError):
    """A standing that isn't good; rules are the numbers of the broken ones."""

    def __init__(self, rules):
        self.rules = rules


class NoWay(BothError):
    """What can't be walked; at is the number of the first such row."""

    def __init__(self, at):
        self.at = at


class Knotted(BothError):
    """Two standings without a way between them; ring is the knot."""

    def __init__(self, ring):
        self.ring = ring


class NoThing(BothError):
    """What is no thing, or no things, of the plan."""

    def __init__(self, thing):
        self.thing = thing


class NoRule(BothError):
    """What is no rule, or no number of one."""

    def __init__(self, thing):
        self.thing = thing


class NoLetter(BothError):
    """What is no letter, or no mark of one."""

    def __init__(self, thing):
        self.thing = thing


class NoDeed(BothError):
    """What is no row of deeds; at is the number of the first that is none."""

    def __init__(self, at):
        self.at = at


class NoText(BothError):
    """What isn't written as told; row is the number of the first such row."""

    def __init__(self, row):
        self.row = row


class NoLine(BothError):
    """What is no line that a desk takes."""

    def __init__(self, line):
        self.line = line


class NoBack(BothError):
    """Nothing is left to take back; made with a text."""
