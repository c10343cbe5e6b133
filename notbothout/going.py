"""Going: a way from one standing to another, or the knot by which there is none; and the door towards a goal."""

from notbothout.needs import needs
from notbothout.tracks import gone_at


def is_met(one, other, here, need):
    """Whether, all being here, the thing that is waited for has come to the need's place."""
    j, place = need[2], need[3]
    return gone_at(one, other, j, here[j]) >= gone_at(one, other, j, place)


def end_of(one, other, asked, here, thing):
    """The place to which the thing can go from here by what is asked, the others staying."""
    end = other[thing]
    for need in asked:
        if need[0] == thing and not is_met(one, other, here, need):
            stop = need[1]
            if gone_at(one, other, thing, stop) < gone_at(one, other, thing, end):
                end = stop
    return end


def rows_towards(one, other, asked):
    """The rows of a way from one towards the other that goes as far as can be, and where one is at last.

    Each thing goes as far as it can each time: but for its first row it begins where a need held it. So no more rows
    are there than things and needs together.
    """
    rows = []
    here = list(one)
    goes_on = True
    while goes_on:
        goes_on = False
        for thing in range(len(one)):
            end = end_of(one, other, asked, here, thing)
            if end != here[thing]:
                rows.append((thing, end))
                here[thing] = end
                goes_on = True
    return tuple(rows), tuple(here)


def holding(one, other, asked, here, thing):
    """The first need that holds the thing where it is."""
    held = [need for need in asked if need[0] == thing and need[1] == here[thing]]
    return [need for need in held if not is_met(one, other, here, need)][0]


def ring_at(one, other, asked, here):
    """The ring of needs by which nobody goes on from here."""
    # Who is held waits for one that has not come to the other, either, and so is held, too: it comes round.
    thing = [number for number in range(len(here)) if here[number] != other[number]][0]
    things = []
    row = []
    while thing not in things:
        things.append(thing)
        row.append(holding(one, other, asked, here, thing))
        thing = row[-1][2]
    return tuple(row[things.index(thing):])


def way(plan, one, other):
    """("way", way) from one to the other without a step too many; or ("knot", ring) where there is none."""
    asked = needs(plan, one, other)
    rows, last = rows_towards(one, other, asked)
    if last == other:
        return "way", rows
    return "knot", ring_at(one, other, asked, last)


def door(plan, standing, goal):
    """Where one is at last who goes from the standing towards the goal by steps, each nearer to it."""
    return rows_towards(standing, goal, needs(plan, standing, goal))[1]


def to_door(plan, standing, goal):
    """The rows of a way from the standing to the door towards the goal."""
    return way(plan, standing, door(plan, standing, goal))[1]
