"""Waves: steps that may go in whatever order, and with how few of them one comes to another standing.

What a thing goes is kept as its legs (begun, lag), rising: from where it has gone begun steps on, it comes with wave
many + lag to where it has gone many steps.
"""

from notbothout.errors import Knotted
from notbothout.going import way
from notbothout.kinds import are_wholes
from notbothout.needs import needs
from notbothout.tracks import all_steps, gone_at, place_after


def way_or_refusal(plan, one, other):
    """The rows of a way from one to the other; Knotted(ring) where there is none."""
    word, told = way(plan, one, other)
    if word == "knot":
        raise Knotted(told)
    return told


def comes_with(legs, many):
    """The wave with which a thing with these legs comes to where it has gone so many steps; 0 ahead of all."""
    return many + max([lag for begun, lag in legs if begun < many], default=0)


def counted(one, other, asked):
    """The rising list of needs, their places counted by steps gone."""
    return sorted([(i, gone_at(one, other, i, stop), j, gone_at(one, other, j, place)) for i, stop, j, place in asked])


def earliest(plan, one, other):
    """For each thing its legs, each step being done in as early a wave as can be; Knotted(ring) where no way is."""
    rows = way_or_refusal(plan, one, other)
    asked = counted(one, other, needs(plan, one, other))
    legs = [[(0, 0)] for thing in one]
    # The way's rows are in an order in which all that a step waits for has been done ahead of it.
    for thing, there in rows:
        for i, stop, j, many in asked:
            if i == thing and stop < gone_at(one, other, thing, there):
                lag = comes_with(legs[j], many) - stop
                if lag > legs[thing][-1][1]:
                    legs[thing].append((stop, lag))
    return legs


def waves(plan, one, other):
    """With how many waves at the least one comes from one to the other; Knotted(ring) where no way is."""
    legs = earliest(plan, one, other)
    return max([comes_with(legs[thing], all_steps(one, other, thing)) for thing in range(len(one))])


def wave_of(plan, one, other, thing, place):
    """The number, from 1, of the wave with which the thing comes to that place, as early as can be."""
    legs = earliest(plan, one, other)
    return comes_with(legs[thing], gone_at(one, other, thing, place))


def runs_of(one, other, thing, legs):
    """The runs (wave, thing, here, there) of a thing with these legs."""
    found = []
    ends = [begun for begun, lag in legs[1:]] + [all_steps(one, other, thing)]
    for (begun, lag), end in zip(legs, ends):
        if begun < end:
            here, there = place_after(one, other, thing, begun), place_after(one, other, thing, end)
            found.append((begun + lag + 1, thing, here, there))
    return found


def runs(plan, one, other):
    """The rising tuple of runs by which each step is done in as early a wave as can be."""
    found = []
    for thing, legs in enumerate(earliest(plan, one, other)):
        found.extend(runs_of(one, other, thing, legs))
    return tuple(sorted(found))


def legs_in(one, other, many, thing, rows):
    """The legs that these runs of the thing make from one to the other with at most so many waves; None of others."""
    own = [(here, there, wave) for wave, number, here, there in rows if number == thing]
    spans = [(gone_at(one, other, thing, here), gone_at(one, other, thing, there), wave) for here, there, wave in own]
    found = []
    come = last = 0
    for begun, end, wave in sorted(spans):
        if begun != come or end <= begun or wave <= last:
            return None
        found.append((begun, wave - begun - 1))
        come, last = end, wave + end - begun - 1
    if come != all_steps(one, other, thing) or (come > 0 and last > many):
        return None
    return found


def are_runs(one, thing):
    """Whether it, of anything, is a tuple of rows of four whole numbers, each of a thing that is there."""
    if not isinstance(thing, tuple):
        return False
    return all([are_wholes(row, 4) and 0 <= row[1] < len(one) for row in thing])


def shows_runs(plan, one, other, many, thing):
    """Whether it, of anything, is runs by which all go from one to the other by at most so many waves."""
    way_or_refusal(plan, one, other)
    if not are_runs(one, thing):
        return False
    legs = [legs_in(one, other, many, number, thing) for number in range(len(one))]
    if None in legs:
        return False
    asked = counted(one, other, needs(plan, one, other))
    return all([comes_with(legs[i], stop + 1) > comes_with(legs[j], come) for i, stop, j, come in asked])
