"""Sides: which one is the other, which ones bar each other, and the chains by which one leads to another."""

from notbothout.kinds import are_sides_of


def span(plan, side):
    """The least and the greatest place of its thing by which the side is in."""
    thing, word, place = side
    if word == "from":
        return place, plan.tops[thing]
    return 0, place


def other_side(plan, side):
    """The side that is in just where this one is out; None of one that is in everywhere."""
    thing = side[0]
    low, high = span(plan, side)
    if low > 0:
        return thing, "to", low - 1
    if high < plan.tops[thing]:
        return thing, "from", high + 1
    return None


def bars(plan, one, other):
    """Whether both are of one thing and no place of it has both in."""
    if one[0] != other[0]:
        return False
    low, high = span(plan, one)
    least, most = span(plan, other)
    return high < least or most < low


def is_within(plan, one, other):
    """Whether both are of one thing and the other is in wherever this one is."""
    if one[0] != other[0]:
        return False
    low, high = span(plan, one)
    least, most = span(plan, other)
    return least <= low and high <= most


def led_by_rules(plan, side):
    """The sides that the side leads to by a rule, one of whose sides it bars."""
    found = []
    for first, second in plan.rules:
        if bars(plan, side, first):
            found.append(second)
        if bars(plan, side, second):
            found.append(first)
    return found


def leads(plan, one, other):
    """Whether the side one leads to the other one."""
    return is_within(plan, one, other) or other in led_by_rules(plan, one)


def is_chain(plan, thing):
    """Whether it, of anything, is a chain."""
    if not are_sides_of(plan.tops, thing) or thing == ():
        return False
    return all([leads(plan, one, other) for one, other in zip(thing, thing[1:])])


def reached(plan, starts):
    """A dict of the starts and all sides of rules that chains lead to from them; each with the side ahead of it.

    A side that is in wherever another one is bars nothing that this one doesn't bar. So the way by rules alone
    comes to all that chains come to, however many places there are, but for sides within those that are found.
    """
    ahead = {side: None for side in starts}
    row = list(ahead)
    at = 0
    while at < len(row):
        here = row[at]
        for side in led_by_rules(plan, here):
            if side not in ahead:
                ahead[side] = here
                row.append(side)
        at += 1
    return ahead


def chain_in(ahead, side):
    """The chain to the side from a start, of what reached tells."""
    row = []
    while side is not None:
        row.append(side)
        side = ahead[side]
    return tuple(row[::-1])


def chain_to(plan, starts, goal):
    """A chain from one of the starts to the goal; () where there is none."""
    ahead = reached(plan, starts)
    for side in ahead:
        if is_within(plan, side, goal):
            chain = chain_in(ahead, side)
            return chain if side == goal else (*chain, goal)
    return ()
