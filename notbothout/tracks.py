"""Tracks: the places of a thing on its way from one standing to another, counted by the steps that it has gone.

So what lies beyond is the greater number, whether the thing goes on or back.
"""


def gone_at(one, other, thing, place):
    """How many steps the thing has gone where it is at that place; below 0 where the place lies the other way."""
    if other[thing] < one[thing]:
        return one[thing] - place
    return place - one[thing]


def place_after(one, other, thing, many):
    """The place where the thing is when it has gone so many steps."""
    if other[thing] < one[thing]:
        return one[thing] - many
    return one[thing] + many


def all_steps(one, other, thing):
    """How many steps the thing has to go."""
    return abs(other[thing] - one[thing])
