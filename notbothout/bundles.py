"""Bundles: steps that part all good standings alike, and so are gone at once or not at all."""

from notbothout.bounds import none_paper
from notbothout.wants import follows


def stretches(plan, thing, place):
    """The stretches that are bound with the step on from that place, both of whose parts some good standing has."""
    # Whose greatest place short of the step lies below its least one beyond it goes all steps between with it. What
    # is in at all good standings, whatever follows, binds nothing: then both parts have it.
    short = follows(plan, ((thing, "to", place),))
    beyond = follows(plan, ((thing, "from", place + 1),))
    found = []
    for number, ((least, most), (low, high)) in enumerate(zip(short, beyond)):
        if most < low:
            found.append((number, most, low))
        elif high < least:
            found.append((number, least, high))
    return tuple(found)


def bundle(plan, thing, place):
    """The rising tuple of the stretches that are bound with the step; () where a part of it is empty."""
    for side in ((thing, "to", place), (thing, "from", place + 1)):
        if none_paper(plan, (side,)) is not None:
            return ()
    return stretches(plan, thing, place)


def turned(moves):
    """The moves, each gone the other way."""
    return tuple([(thing, there, here) for thing, here, there in moves])
