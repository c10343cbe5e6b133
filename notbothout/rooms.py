"""Rooms: all good standings to which ways lead from one."""

from notbothout.bounds import bounds
from notbothout.errors import NoGood
from notbothout.going import door, way
from notbothout.nearest import nearest, pulled


def outermost(plan, standing, side):
    """The place nearest to the side, which some good standing has in, that the room gives its thing."""
    # The door lies between each standing of the room and the goal, so none of the room is nearer.
    return door(plan, standing, pulled(plan, standing, (side,)))[side[0]]


def room(plan, standing):
    """For each thing the least and the greatest place in the standing's room."""
    rows = []
    for thing, (low, high) in enumerate(bounds(plan)[1]):
        least = outermost(plan, standing, (thing, "to", low))
        most = outermost(plan, standing, (thing, "from", high))
        rows.append((least, most))
    return tuple(rows)


def same_room(plan, one, other):
    """Whether a way leads from one to the other."""
    return way(plan, one, other)[0] == "way"


def edge(plan, standing, side):
    """A way to the nearest of the room by which the side is in; else the nearest of all, and the knot ahead of it."""
    try:
        near = nearest(plan, standing, (side,))
    except NoGood as refused:
        return "none", refused.paper
    # Where the room has one by which it is in, the nearest of all lies between that one and this: in the room, too.
    word, told = way(plan, standing, near)
    if word == "way":
        return word, told
    return word, near, told
