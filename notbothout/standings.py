"""Standings, and the sides and rules that they have in, kept or broken."""

from notbothout.kinds import is_place, is_side_of


def is_side(plan, thing):
    """Whether it, of anything, is a side of the plan."""
    return is_side_of(plan.tops, thing)


def is_standing(plan, thing):
    """Whether it, of anything, is a standing of the plan, good or not."""
    if not isinstance(thing, tuple) or len(thing) != len(plan.tops):
        return False
    return all([is_place(top, place) for top, place in zip(plan.tops, thing)])


def is_in(side, standing):
    """Whether the side is in by the standing."""
    thing, word, place = side
    if word == "from":
        return standing[thing] >= place
    return standing[thing] <= place


def is_kept(rule, standing):
    """Whether a side of the rule is in by the standing."""
    first, second = rule
    return is_in(first, standing) or is_in(second, standing)


def broken(plan, standing):
    """The rising tuple of the numbers of the rules that the standing breaks."""
    return tuple([number for number, rule in enumerate(plan.rules) if not is_kept(rule, standing)])


def is_good(plan, standing):
    """Whether the standing breaks no rule."""
    return broken(plan, standing) == ()
