"""Needs: which thing leaves a place no sooner than which other one has come to a place."""

from notbothout.standings import is_in
from notbothout.tracks import gone_at


def is_left(side, one, other):
    """Whether the side is in at one and out at the other."""
    return is_in(side, one) and not is_in(side, other)


def need_of(one, other, left, entered):
    """The need that a rule with these sides makes, the one left and the other entered; None where it makes none."""
    if not is_left(left, one, other) or not is_left(entered, other, one):
        return None
    # A side's own place is the last by which it is in for who leaves it, the first for who enters it.
    i, j = left[0], entered[0]
    stop, place = left[2], entered[2]
    if i == j and gone_at(one, other, j, place) <= gone_at(one, other, i, stop) + 1:
        return None
    return i, stop, j, place


def needs(plan, one, other):
    """The rising tuple of all needs (i, stop, j, place) of who goes from one to the other."""
    found = []
    for first, second in plan.rules:
        found.append(need_of(one, other, first, second))
        found.append(need_of(one, other, second, first))
    return tuple(sorted(set([need for need in found if need is not None])))
