"""Bolts: what must go at once, and the deeds by which one comes from any good standing to any other one."""

from notbothout.bundles import stretches, turned
from notbothout.going import rows_towards
from notbothout.kinds import are_wholes, is_place
from notbothout.middles import far
from notbothout.nearest import come_to, pulled
from notbothout.needs import needs
from notbothout.standings import is_good
from notbothout.tracks import place_after
from notbothout.ways import can_go, is_row, moved


def with_next_step(plan, here, other, thing):
    """The nearest good standing by which the thing has gone its next step towards the other."""
    place = here[thing]
    return pulled(plan, here, (come_to(thing, place, place_after(here, other, thing, 1)),))


def behind_bolt(plan, here, other):
    """Where one is behind the next bolt, when no step leads on from here."""
    # What a step draws along may hold a bolt of its own; where that is the least there is nothing but one bolt in it.
    things = [thing for thing in range(len(here)) if here[thing] != other[thing]]
    ends = [with_next_step(plan, here, other, thing) for thing in things]
    aparts = [far(here, end) for end in ends]
    return ends[aparts.index(min(aparts))]


def moves_between(here, there):
    """The moves of the things that leave here to come there."""
    return tuple([(thing, a, b) for thing, (a, b) in enumerate(zip(here, there)) if a != b])


def deeds(plan, one, other):
    """A row of goings and bolts from one to the other, without a step too many.

    A going but a thing's first one begins where a need held it, or behind a bolt; each thing in a bolt has a need in
    it. So there are no more deeds than things and three times the rules.
    """
    found = []
    rows, here = rows_towards(one, other, needs(plan, one, other))
    found.extend([("go", thing, place) for thing, place in rows])
    while here != other:
        there = behind_bolt(plan, here, other)
        found.append(("bolt", moves_between(here, there)))
        rows, here = rows_towards(there, other, needs(plan, there, other))
        found.extend([("go", thing, place) for thing, place in rows])
    return tuple(found)


def is_move(plan, here, thing):
    """Whether it, of anything, is a move of a thing from where it is to another place."""
    if not are_wholes(thing, 3) or not is_place(len(here) - 1, thing[0]):
        return False
    number, start, end = thing
    return start == here[number] and end != start and is_place(plan.tops[number], end)


def are_moves(plan, here, thing):
    """Whether it, of anything, is a tuple of moves, two steps together at least."""
    if not isinstance(thing, tuple) or not all([is_move(plan, here, move) for move in thing]):
        return False
    return sum([abs(end - start) for number, start, end in thing]) >= 2


def is_bound(plan, moves):
    """Whether moves from a good standing to a good one are a bolt's: their steps bound with one another, rising."""
    # Who goes one step of a bundle goes all of it: so what is bound is a whole bundle, rising, of unlike things.
    number, start, end = moves[0]
    if end > start:
        return moves == stretches(plan, number, start)
    return moves == turned(stretches(plan, number, start - 1))


def behind_moves(here, moves):
    """The standing when the moves are done from here."""
    for number, start, end in moves:
        here = moved(here, number, end)
    return here


def behind_deed(plan, here, thing):
    """The standing when the deed, of anything, is done from here; None of what is none."""
    if not isinstance(thing, tuple) or len(thing) not in (2, 3) or not isinstance(thing[0], str):
        return None
    if len(thing) == 3:
        can = thing[0] == "go" and is_row(plan, here, thing[1:]) and can_go(plan, here, thing[1], thing[2])
        return moved(here, thing[1], thing[2]) if can else None
    if thing[0] != "bolt" or not are_moves(plan, here, thing[1]):
        return None
    there = behind_moves(here, thing[1])
    return there if is_good(plan, there) and is_bound(plan, thing[1]) else None


def shows_deeds(plan, one, other, thing):
    """Whether it, of anything, is a row of deeds from one to the other, without a step too many."""
    if not isinstance(thing, tuple):
        return False
    here = one
    many = 0
    for deed in thing:
        there = behind_deed(plan, here, deed)
        if there is None:
            return False
        many += far(here, there)
        here = there
    return here == other and many == far(one, other)
