"""Waiting: chains of steps, each of which waits for the one ahead, that show that fewer waves don't do."""

from notbothout.kinds import are_wholes
from notbothout.needs import needs
from notbothout.tracks import all_steps, gone_at, place_after
from notbothout.waves import comes_with, counted, earliest, way_or_refusal


def latest(one, other, legs):
    """The first of the things that come with the last wave."""
    ends = [comes_with(legs[thing], all_steps(one, other, thing)) for thing in range(len(one))]
    return ends.index(max(ends))


def held_by(asked, legs, thing, begun, wave):
    """The thing, and how many steps it has gone there, whose coming with that wave lets this one leave."""
    rows = [(j, many) for i, stop, j, many in asked if i == thing and stop == begun]
    return [(j, many) for j, many in rows if comes_with(legs[j], many) == wave][0]


def waits(plan, one, other):
    """Stretches of as many steps together as there are waves, each waiting for the one ahead."""
    legs = earliest(plan, one, other)
    if one == other:
        return ()
    asked = counted(one, other, needs(plan, one, other))
    found = []
    thing = latest(one, other, legs)
    many = all_steps(one, other, thing)
    while many > 0:
        begun, lag = [leg for leg in legs[thing] if leg[0] < many][-1]
        found.append((thing, place_after(one, other, thing, begun), place_after(one, other, thing, many)))
        # Who leaves with the first wave waits for nobody.
        thing, many = held_by(asked, legs, thing, begun, begun + lag) if begun + lag > 0 else (thing, 0)
    return tuple(found[::-1])


def is_stretch(one, other, thing):
    """Whether it, of anything, is a stretch of a step or more along its thing's way."""
    if not are_wholes(thing, 3) or not 0 <= thing[0] < len(one):
        return False
    number, here, there = thing
    begun, end = gone_at(one, other, number, here), gone_at(one, other, number, there)
    return 0 <= begun < end <= all_steps(one, other, number)


def shows_waits(plan, one, other, many, thing):
    """Whether it, of anything, is such stretches, of so many steps together, however many waves there are."""
    way_or_refusal(plan, one, other)
    if not isinstance(thing, tuple) or not all([is_stretch(one, other, row) for row in thing]):
        return False
    if (len(thing) == 0) != (one == other) or sum([abs(there - here) for number, here, there in thing]) != many:
        return False
    asked = needs(plan, one, other)
    return all([(row[0], row[1], ahead[0], ahead[2]) in asked for ahead, row in zip(thing, thing[1:])])
