"""What the tests of bundles and bolts share: how steps part all good standings, found by plain search."""

import itertools
import random

from notbothout.plans import Plan
from tests.plain import good_ones, plainly_in, sides_of
from tests.walks import track


def parts_of(plan):
    """A dict of all steps (thing, place): the set of the good standings beyond it."""
    good = good_ones(plan)
    return {(thing, place): frozenset(s for s in good if s[thing] > place)
            for thing, top in enumerate(plan.tops) for place in range(top)}


def bound_steps(plan, step):
    """The steps bound with this one, by their words in [18]: a dict of step to whether it goes on with it."""
    parts, good = parts_of(plan), frozenset(good_ones(plan))
    beyond = parts[step]
    if not beyond or beyond == good:
        return {}
    alike = {other: True for other in parts if parts[other] == beyond}
    return alike | {other: False for other in parts if parts[other] == good - beyond}


def plain_bundle(plan, thing, place):
    """The words of [18], step by step."""
    rows = []
    for (number, k), on in sorted(bound_steps(plan, (thing, place)).items()):
        if rows and rows[-1][:2] == [number, on] and rows[-1][3] == k:
            rows[-1][3] = k + 1
        else:
            rows.append([number, on, k, k + 1])
    return tuple(sorted((number, low, high) if on else (number, high, low) for number, on, low, high in rows))


def steps_in(moves):
    """All steps (thing, place) of the moves, called by the lesser of their two places."""
    return [(thing, min(a, b)) for thing, here, there in moves for a, b in itertools.pairwise(track(here, there))]


def are_plain_moves(here, moves):
    """Whether it is moves of unlike things, rising, from where these are, two steps together at least."""
    if type(moves) is not tuple:
        return False
    for move in moves:
        if type(move) is not tuple or len(move) != 3 or not all(type(part) is int for part in move):
            return False
        thing, start, end = move
        if not 0 <= thing < len(here) or here[thing] != start or start == end or abs(end) > 100:
            return False
    things = [move[0] for move in moves]
    return things == sorted(set(things)) and len(steps_in(moves)) >= 2


def plainly_deed(plan, good, here, deed):
    """Where one is behind the deed, done step by step; None of what is none."""
    if type(deed) is not tuple or len(deed) < 2 or type(deed[0]) is not str:
        return None
    if deed[0] == "go" and len(deed) == 3:
        word, thing, place = deed
        if type(thing) is not int or type(place) is not int or not 0 <= thing < len(here) or abs(place) > 100:
            return None
        row = [here[:thing] + (k,) + here[thing + 1:] for k in track(here[thing], place)]
        return row[-1] if len(row) > 1 and set(row) <= good else None
    if deed[0] != "bolt" or len(deed) != 2 or not are_plain_moves(here, deed[1]):
        return None
    moves = {thing: there for thing, start, there in deed[1]}
    there = tuple(moves.get(thing, place) for thing, place in enumerate(here))
    if there not in good:
        return None
    steps = steps_in(deed[1])
    return there if all(step in bound_steps(plan, steps[0]) for step in steps) else None


def plainly_deeds(plan, good, one, other, thing):
    """The words of [19], step by step and bolt by bolt."""
    if type(thing) is not tuple:
        return False
    here, many = one, 0
    for deed in thing:
        there = plainly_deed(plan, good, here, deed)
        if there is None:
            return False
        many += sum(abs(a - b) for a, b in zip(here, there))
        here = there
    return here == other and many == sum(abs(a - b) for a, b in zip(one, other))


def ring_rules(tops, things, stops, places):
    """Rules by which each of the things leaves its stop only when the next one is at its place or beyond."""
    rules = []
    for at, thing in enumerate(things):
        after = (at + 1) % len(things)
        left = (thing, "to" if places[at] > stops[at] else "from", stops[at])
        come = (things[after], "from" if places[after] > stops[after] else "to", places[after])
        rules.append((left, come))
    return rules


def ringed_pairs(many, seed):
    """So many (plan, one, other) of small plans that have rings of things that pass their gaps at once."""
    dice = random.Random(seed)
    while many > 0:
        tops = tuple(dice.randrange(1, 5) for t in range(dice.randrange(2, 5)))
        one = tuple(dice.choice((0, top)) for top in tops)
        other = tuple(top - place for top, place in zip(tops, one))
        rules = []
        for r in range(dice.randrange(1, 3)):
            things = dice.sample(range(len(tops)), dice.randrange(1, len(tops) + 1))
            lines = [sorted(dice.sample(range(tops[t] + 1), 2), reverse=one[t] > 0) for t in things]
            rules += ring_rules(tops, things, [line[0] for line in lines], [line[1] for line in lines])
        for r in range(dice.randrange(3)):
            rule = dice.choice(sides_of(tops)), dice.choice(sides_of(tops))
            rules += [rule] if all(any(plainly_in(side, end) for side in rule) for end in (one, other)) else []
        plan = Plan(tops, tuple(dice.sample(rules, len(rules))))
        good = good_ones(plan)
        yield plan, one, other
        yield plan, dice.choice(good), dice.choice(good)
        many -= 2
