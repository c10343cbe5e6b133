"""What the tests share: odd things, and small plans searched plainly, all places and standings in turn."""

import itertools
import random

from notbothout.plans import Plan


class Odd:
    """An object that claims to be equal to whatever it is held against."""

    def __eq__(self, other):
        return True

    __hash__ = None


def nested(inner, deep):
    """A tuple in a tuple in a tuple .., so many deep."""
    for k in range(deep):
        inner = (inner,)
    return inner


def nested_list(inner, deep):
    for k in range(deep):
        inner = [inner]
    return inner


def anything():
    """Things of many kinds, none of which is tops, a side, a standing of two things, a chain, a want or a paper."""
    return [
        None, True, False, 0, 1, -1, 10 ** 60 - 1, -(10 ** 60 - 1), "", "from", "0 from 1", "x" * 20000, b"", b"from",
        [], [0, 1], [0, "from", 1], {}, {0: 1}, set(), {1, 2}, frozenset(), frozenset((0, 1)), range(2), object(),
        Odd(), len, Plan, Plan((1, 1)), ValueError("x"), (None,), (True,), ("from",), ([],), ({},), (Odd(),),
        (0, "from"), (0, "from", 1, 1), (0, "from", True), (False, "from", 1), (0, b"from", 1), (0, "From", 1),
        (0, "from ", 1), (0, "", 1), (0, None, 1), (0, Odd(), 1), (Odd(), "from", 1), (0, "from", Odd()),
        (0, "from", "1"), ("0", "from", 1), (0, "from", None), (None, "from", 1), (0, "from", (1,)), (0, ("from",), 1),
        nested((), 29), nested(0, 30), nested((0, "from", 1), 28), nested_list(0, 30), nested_list((0, 1), 29),
        {0: {0: nested_list({}, 27)}}, (nested((), 29), "from", 1), (0, nested("from", 29), 1), (0, nested([], 29)),
    ]


def sides_of(tops):
    """All sides of things with these tops."""
    return [(t, word, place) for t, top in enumerate(tops) for word in ("from", "to") for place in range(top + 1)]


def standings_of(plan):
    """All standings of the plan, good or not."""
    return list(itertools.product(*[range(top + 1) for top in plan.tops]))


def places_in(plan, side):
    """The places of its thing that have the side in."""
    thing, word, place = side
    return {k for k in range(plan.tops[thing] + 1) if (k >= place if word == "from" else k <= place)}


def plainly_in(side, standing):
    thing, word, place = side
    return standing[thing] >= place if word == "from" else standing[thing] <= place


def plainly_good(plan, standing):
    return all(plainly_in(one, standing) or plainly_in(two, standing) for one, two in plan.rules)


def plainly_has(want, standing):
    return all(plainly_in(side, standing) for side in want)


def good_ones(plan, want=()):
    """All good standings of the plan that have the want."""
    return [s for s in standings_of(plan) if plainly_good(plan, s) and plainly_has(want, s)]


def plainly_bars(plan, one, other):
    return one[0] == other[0] and not places_in(plan, one) & places_in(plan, other)


def plainly_leads(plan, one, other):
    """The words of [7], by all places."""
    if one[0] == other[0] and places_in(plan, one) <= places_in(plan, other):
        return True
    for first, second in plan.rules:
        if plainly_bars(plan, one, first) and other == second or plainly_bars(plan, one, second) and other == first:
            return True
    return False


def plainly_chain(plan, chain):
    return len(chain) > 0 and all(plainly_leads(plan, a, b) for a, b in zip(chain, chain[1:]))


def small_plans(many, seed, most_rules=9):
    """So many small plans, the same ones each time; among them many without a good standing."""
    dice = random.Random(seed)
    for k in range(many):
        tops = tuple(dice.randrange(4) for t in range(dice.randrange(1, 5)))
        sides = sides_of(tops)
        pairs = [(dice.choice(sides), dice.choice(sides)) for r in range(dice.randrange(most_rules + 1))]
        yield Plan(tops, tuple((a, a) if dice.randrange(8) == 0 else (a, b) for a, b in pairs))


def small_want(plan, dice, most=4):
    """A want of a few sides of the plan."""
    sides = sides_of(plan.tops)
    return tuple(dice.choice(sides) for k in range(dice.randrange(most)))


def great_plans(many, seed):
    """So many plans of twelve things, forty rules and tops of thirty figures."""
    dice = random.Random(seed)
    for k in range(many):
        tops = tuple(dice.randrange(10 ** 29, 10 ** 30) for t in range(12))
        yield Plan(tops, tuple((great_side(tops, dice), great_side(tops, dice)) for r in range(40)))


def great_side(tops, dice):
    thing = dice.randrange(len(tops))
    return (thing, dice.choice(("from", "to")), dice.randrange(tops[thing] + 1))


def crowded_plans(many, seed):
    """So many plans of twelve things with tops 0 and 1 and forty rules; a given standing is good in every other one."""
    dice = random.Random(seed)
    for k in range(many):
        tops = tuple(1 if dice.randrange(6) else 0 for t in range(12))
        hidden = tuple(dice.randrange(top + 1) for top in tops)
        sides = sides_of(tops)
        rules = []
        while len(rules) < 40:
            one, two = dice.choice(sides), dice.choice(sides)
            if k % 2 == 1 or plainly_in(one, hidden) or plainly_in(two, hidden):
                rules.append((one, two))
        yield Plan(tops, tuple(rules))


def stretched_side(side, by):
    """The side with each place made a row of so many places."""
    thing, word, place = side
    return (thing, word, place * by if word == "from" else place * by + by - 1)


def stretched(plan, by):
    """The plan with each place made a row of so many places: what is good stays so, row by row."""
    tops = tuple(top * by + by - 1 for top in plan.tops)
    return Plan(tops, tuple((stretched_side(a, by), stretched_side(b, by)) for a, b in plan.rules))


def stretched_rows(rows, by):
    return tuple((low * by, high * by + by - 1) for low, high in rows)


def plainly_follows(plan, want):
    """The words of [8], by a search over all sides."""
    found, fresh = set(want), list(want)
    while fresh:
        side = fresh.pop()
        for other in sides_of(plan.tops):
            if other not in found and plainly_leads(plan, side, other):
                found.add(other)
                fresh.append(other)
    lows = [max([p for t, w, p in found if (t, w) == (thing, "from")], default=0) for thing in range(len(plan))]
    highs = [
        min([p for t, w, p in found if (t, w) == (thing, "to")], default=top) for thing, top in enumerate(plan.tops)
    ]
    return tuple(zip(lows, highs))


def plainly_other(plan, side):
    """The side whose places are just all others; None where there is none."""
    rest = set(range(plan.tops[side[0]] + 1)) - places_in(plan, side)
    found = [other for other in sides_of(plan.tops) if other[0] == side[0] and places_in(plan, other) == rest]
    return found[0] if found else None


def plainly_shows(plan, want, paper):
    """The words of [9], of a paper whose parts are tuples of sides."""
    if paper[0] == "barred":
        chain = paper[1]
        barred = chain and any(plainly_bars(plan, chain[-1], side) for side in want)
        return bool(barred and chain[0] in want and plainly_chain(plan, chain))
    one, two = paper[1:]
    if not (plainly_chain(plan, one) and plainly_chain(plan, two)):
        return False
    return one[-1] == plainly_other(plan, one[0]) and two[0] == one[-1] and two[-1] == one[0]


def is_plain(told):
    """Whether it is tuples, whole numbers, texts, truths and None alone, just of these kinds."""
    if type(told) is tuple:
        return all(is_plain(part) for part in told)
    return told is None or type(told) in (int, str, bool)


def otherwise(thing, dice):
    """The nested tuple with something otherwise at any place and depth."""
    odd = anything()
    yield from (list(thing), (thing,), thing + thing[:1], thing + (dice.choice(odd),), thing[::-1], (), None)
    for at, part in enumerate(thing):
        ahead, behind = thing[:at], thing[at + 1:]
        for swap in [(), (part, part), (dice.choice(odd),), ((),), (None,)]:
            yield ahead + swap + behind
        others = otherwise(part, dice) if isinstance(part, tuple) else otherwise_part(part, dice)
        for other in others:
            yield ahead + (other,) + behind


def otherwise_part(part, dice):
    """Others in the place of a text, a whole number or None; truths in the place of 0 and 1."""
    if part is None:
        return [0, False, "", (), [], (None,), "None"]
    if isinstance(part, str):
        return [part + " ", part[:-1], part.upper(), part.encode(), "from" if part == "to" else "to", (part,)]
    truths = [bool(part)] if part in (0, 1) else []
    return [part + 1, part - 1, -part - 1, str(part), None, (part,), [part], part + 10 ** 59, *truths]
