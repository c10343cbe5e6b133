"""Wants: sides that are all to be in, and what follows of them."""

from notbothout.kinds import are_sides_of
from notbothout.sides import reached
from notbothout.standings import is_in

MOST_SIDES = 24


def is_want(plan, thing):
    """Whether it, of anything, is a want."""
    return are_sides_of(plan.tops, thing) and len(thing) <= MOST_SIDES


def has(want, standing):
    """Whether the standing, good or not, has the want."""
    return all([is_in(side, standing) for side in want])


def follows(plan, want):
    """For each thing (low, high): what chains from the want's sides lead to."""
    lows = [0] * len(plan.tops)
    highs = list(plan.tops)
    for thing, word, place in reached(plan, want):
        if word == "from":
            lows[thing] = max(lows[thing], place)
        else:
            highs[thing] = min(highs[thing], place)
    return tuple(zip(lows, highs))
