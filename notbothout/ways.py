"""Ways: rows by which things go, step by step, from good standings to good ones."""

from notbothout.errors import NoWay
from notbothout.kinds import is_place
from notbothout.standings import is_in


def moved(standing, thing, place):
    """The standing with the thing at that place."""
    return standing[:thing] + (place,) + standing[thing + 1:]


def is_row(plan, standing, thing):
    """Whether it, of anything, is a row by which a thing leaves its place for another one."""
    if not isinstance(thing, tuple) or len(thing) != 2 or not is_place(len(plan.tops) - 1, thing[0]):
        return False
    number, place = thing
    return is_place(plan.tops[number], place) and place != standing[number]


def out_places(plan, standing, side, thing):
    """The least and greatest place by which, the thing being there, the side is out; where none is, least above."""
    top = plan.tops[thing]
    if side[0] != thing:
        return (0, -1) if is_in(side, standing) else (0, top)
    if side[1] == "from":
        return 0, side[2] - 1
    return side[2] + 1, top


def is_kept_along(plan, standing, rule, thing, place):
    """Whether the rule is kept at all places of the thing from where it stands to that one."""
    # Places are not gone through one by one: lines are too long for that.
    here = standing[thing]
    least, most = out_places(plan, standing, rule[0], thing)
    low, high = out_places(plan, standing, rule[1], thing)
    return max(least, low, min(here, place)) > min(most, high, max(here, place))


def can_go(plan, standing, thing, place):
    """Whether the thing can go to that place by good steps, the others staying."""
    return all([is_kept_along(plan, standing, rule, thing, place) for rule in plan.rules])


def walked(plan, standing, way):
    """The last standing of the way, of anything; NoWay(at) of what can't be walked."""
    if not isinstance(way, tuple):
        raise NoWay(0)
    here = standing
    for at, row in enumerate(way):
        if not is_row(plan, here, row) or not can_go(plan, here, row[0], row[1]):
            raise NoWay(at)
        here = moved(here, row[0], row[1])
    return here


def steps(standing, way):
    """How many steps the way has that begins at the standing."""
    many = 0
    here = standing
    for thing, place in way:
        many += abs(place - here[thing])
        here = moved(here, thing, place)
    return many
