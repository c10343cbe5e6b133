"""What the tests of ways, rooms and waves share: plain searches, step by step, and lines too long for them."""

import itertools
import random

from notbothout.plans import Plan
from tests.plain import good_ones, plainly_in, sides_of

THIRTY = 10 ** 30 - 1
# Each of two things leaves its place only when the other one has left its own.
TIED = Plan((1, 1), (((0, "to", 0), (1, "from", 1)), ((1, "to", 0), (0, "from", 1))))
# Thing 0 beyond 1 waits for thing 1 at 3; thing 1 beyond 3 waits for thing 0 at 2.
CROSSED = Plan((4, 5), (((0, "to", 1), (1, "from", 3)), ((1, "to", 3), (0, "from", 2))))


def good_set(plan):
    return set(good_ones(plan))


def whole_rows(thing, many):
    """Whether it is a tuple of tuples of so many whole numbers."""
    if type(thing) is not tuple:
        return False
    return all(type(row) is tuple and len(row) == many and all(type(k) is int for k in row) for row in thing)


def steps_from(good, standing):
    """All good standings a step away; good is a set of all good ones."""
    for thing, place in itertools.product(range(len(standing)), (-1, 1)):
        other = standing[:thing] + (standing[thing] + place,) + standing[thing + 1:]
        if other in good:
            yield other


def reach(good, start):
    """A dict of all to which good steps lead from the start, whatever they go round by: with how many at the least."""
    found, row = {start: 0}, [start]
    for here in row:
        for there in steps_from(good, here):
            if there not in found:
                found[there] = found[here] + 1
                row.append(there)
    return found


def rooms_of(good):
    """All rooms of these good standings, each a sorted list."""
    left, rooms = set(good), []
    while left:
        rooms.append(sorted(reach(good, min(left))))
        left -= set(rooms[-1])
    return rooms


def track(start, end):
    """The places from the start to the end, both, too."""
    return list(range(start, end + 1)) if end >= start else list(range(start, end - 1, -1))


def nearer(good, here, goal):
    """All good standings a step away from here that are nearer to the goal."""
    for thing, (a, b) in enumerate(zip(here, goal)):
        there = here[:thing] + (track(a, b)[1],) + here[thing + 1:] if a != b else None
        if there in good:
            yield there


def plain_steps(standing, way):
    """All standings that a way goes through, step by step, the first one, too."""
    row = [standing]
    for thing, place in way:
        here = row[-1]
        row += [here[:thing] + (k,) + here[thing + 1:] for k in track(here[thing], place)[1:]]
    return row


def plain_needs(plan, one, other):
    """The words of [12], by walking each thing place by place."""
    found = set()
    for rule in plan.rules:
        for first, second in (rule, rule[::-1]):
            if not plainly_in(first, one) or plainly_in(first, other):
                continue
            if plainly_in(second, one) or not plainly_in(second, other):
                continue
            (i, word, x), (j, name, y) = first, second
            line, way = track(one[i], other[i]), track(one[j], other[j])
            stop = [p for p in line if (p >= x if word == "from" else p <= x)][-1]
            place = [p for p in way if (p >= y if name == "from" else p <= y)][0]
            if i != j or line.index(place) > line.index(stop) + 1:
                found.add((i, stop, j, place))
    return tuple(sorted(found))


def is_beyond(one, other, thing, place, stop):
    """Whether the place lies beyond the stop, as the thing goes from one to the other."""
    return place > stop if other[thing] > one[thing] else place < stop


def plainly_ring(one, other, asked, thing):
    """The words of [13], the needs being handed in; of great plans, too."""
    if not whole_rows(thing, 4) or thing == () or not set(thing) <= set(asked):
        return False
    for need, after in zip(thing, thing[1:] + thing[:1]):
        if need[2] != after[0] or not is_beyond(one, other, need[2], need[3], after[1]):
            return False
    return True


def is_wave(good, here, there):
    """Whether steps of unlike things lead from here to there, one at least, that may be done in whatever order."""
    if here == there or max(abs(a - b) for a, b in zip(here, there)) > 1:
        return False
    return all(mixed in good for mixed in itertools.product(*[{a, b} for a, b in zip(here, there)]))


def fewest_waves(good, start):
    """A dict of all to which waves lead from the start, whatever they go round by: with how many at the least."""
    found, row = {start: 0}, [start]
    for here in row:
        for there in itertools.product(*[(p - 1, p, p + 1) for p in here]):
            if there in good and there not in found and is_wave(good, here, there):
                found[there] = found[here] + 1
                row.append(there)
    return found


def early_waves(good, one, other):
    """The standings ahead of all waves and behind each, each step towards the other being done as early as can be."""
    row = [one]
    while row[-1] != other:
        here = row[-1]
        free = list(nearer(good, here, other))
        row.append(tuple(next((there[t] for there in free if there[t] != p), p) for t, p in enumerate(here)))
        assert is_wave(good, here, row[-1])
    return row


def drawn_rule(tops, one, other, dice):
    """A rule that both keep and that more often than not turns from one to the other; None where it fell out else."""
    first, second = dice.choice(sides_of(tops)), dice.choice(sides_of(tops))
    if dice.randrange(12) == 0:
        second = first
    kept = all(plainly_in(first, end) or plainly_in(second, end) for end in (one, other))
    turns = all(plainly_in(side, one) != plainly_in(side, other) for side in (first, second))
    if not kept or not turns and dice.randrange(5) or turns and first[0] == second[0] and dice.randrange(8):
        return None
    return first, second


def drawn_pairs(many, seed, most_rules=9):
    """So many (plan, one, other) of small plans, one and other good, perhaps the same."""
    dice = random.Random(seed)
    for k in range(many):
        tops = tuple(dice.randrange(4) for t in range(dice.randrange(1, 5)))
        one, other = [tuple(dice.randrange(top + 1) for top in tops) for end in range(2)]
        if dice.randrange(4):
            one = tuple(dice.choice((0, top)) for top in tops)
            other = tuple(top - place for top, place in zip(tops, one))
        rules = [drawn_rule(tops, one, other, dice) for r in range(dice.randrange(1, 12 * most_rules))]
        yield Plan(tops, tuple(rule for rule in rules if rule is not None)[:most_rules]), one, other


def waiting_pairs(many, seed):
    """So many (plan, one, other) of longer lines, between which a drawn order of steps leads, with many that wait."""
    dice = random.Random(seed)
    for k in range(many):
        tops = tuple(dice.randrange(2, 7) for t in range(dice.randrange(2, 4)))
        one = tuple(dice.choice((0, top)) for top in tops)
        other = tuple(top - place for top, place in zip(tops, one))
        order = [t for t, top in enumerate(tops) for step in range(top)]
        dice.shuffle(order)
        here, steps = list(one), []
        for thing in order:
            steps.append((thing, here[thing], track(here[thing], other[thing])[1]))
            here[thing] = steps[-1][2]
        rules = []
        for r in range(dice.randrange(2, 12)):
            (j, start, come), (i, stop, end) = [steps[at] for at in sorted(dice.sample(range(len(steps)), 2))]
            words = "to" if end > stop else "from", "from" if come > start else "to"
            rules += [((i, words[0], stop), (j, words[1], come))] if i != j else []
        yield Plan(tops, tuple(rules)), one, other


def free_pairs(many, seed):
    """(plan, one, other, all good standings), of small plans, where a way leads from one to the other."""
    for plan, one, other in [*drawn_pairs(many, seed), *waiting_pairs(many // 4, seed)]:
        good = good_set(plan)
        for start, end in ((one, other), (other, one)):
            if end in reach(good, start):
                yield plan, start, end, good


def at_moment(one, other, thing, moment):
    """The place of the thing at a moment of a million; some hurry at first, some at last, some go evenly."""
    rest = 10 ** 6 - moment
    gone = (moment, moment * moment // 10 ** 6, 10 ** 6 - rest * rest // 10 ** 6)[thing % 3]
    return one[thing] + (other[thing] - one[thing]) * gone // 10 ** 6


def turning_rule(one, other, i, leave, j, come):
    """A rule by which i leaves its place of the one moment no sooner than j has come to its place of the other."""
    left = (i, "to" if other[i] > one[i] else "from", at_moment(one, other, i, leave))
    return left, (j, "from" if other[j] > one[j] else "to", at_moment(one, other, j, come))


def great_pairs(many, seed):
    """So many (plan, one, other) of twelve things with lines of thirty figures and forty rules that all turn.

    By every other plan who leaves waits for earlier moments alone, so that there is a way.
    """
    dice = random.Random(seed)
    for k in range(many):
        tops = tuple(dice.randrange(10 ** 29, 10 ** 30) for t in range(12))
        one = tuple(dice.choice((0, dice.randrange(top // 3), top)) for top in tops)
        other = tuple(top - place for top, place in zip(tops, one))
        rules = []
        while len(rules) < 40:
            i, j = dice.sample(range(12), 2)
            come, leave = sorted(dice.sample(range(10 ** 4, 10 ** 6 - 10 ** 4), 2))
            if k % 2 == 1 and dice.randrange(3) == 0:
                come, leave = leave, come
            rule = turning_rule(one, other, i, leave, j, come)
            rules.append(rule if dice.randrange(2) else rule[::-1])
        yield Plan(tops, tuple(rules)), one, other


def row_plan():
    """Twelve things with lines of thirty figures: each leaves 0 no sooner than the next one has come to its top."""
    return Plan((THIRTY,) * 12, tuple(((k, "to", 0), (k + 1, "from", THIRTY)) for k in range(11)))


def turns_plan(many=20, first=0):
    """Two things that go a place each by turns, so many times, from the place first on."""
    rules = []
    for place in range(first, first + many):
        rules.append(((1, "to", place), (0, "from", place + 1)))
        rules.append(((0, "to", place + 1), (1, "from", place + 1)))
    return Plan((THIRTY,) * 2, tuple(rules))


def mirrored(plan):
    """The plan with all lines turned about."""
    turned = {"from": "to", "to": "from"}
    rules = [[(t, turned[word], plan.tops[t] - place) for t, word, place in rule] for rule in plan.rules]
    return Plan(plan.tops, tuple(tuple(rule) for rule in rules))
