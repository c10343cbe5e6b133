"""Knots: rings of needs by which no way leads from one standing to another."""

from notbothout.kinds import are_wholes
from notbothout.needs import needs
from notbothout.tracks import gone_at


def waits_for(one, other, need, following):
    """Whether what the need asks for is held by the following one."""
    j, place = need[2], need[3]
    i, stop = following[0], following[1]
    return j == i and gone_at(one, other, j, place) > gone_at(one, other, i, stop)


def shows_knot(plan, one, other, thing):
    """Whether it, of anything, is a ring of needs by which no way leads from one to the other."""
    if not isinstance(thing, tuple) or len(thing) == 0:
        return False
    asked = needs(plan, one, other)
    if not all([are_wholes(need, 4) and need in asked for need in thing]):
        return False
    return all([waits_for(one, other, need, following) for need, following in zip(thing, thing[1:] + thing[:1])])
