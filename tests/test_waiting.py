"""Promise [17], and [3] (d): chains of steps, each waiting for the one ahead, that show that fewer waves don't do."""

import copy
import itertools
import random
import unittest

from notbothout.errors import Knotted
from notbothout.going import way
from notbothout.needs import needs
from notbothout.plans import Plan
from notbothout.waiting import shows_waits, waits
from notbothout.waves import waves
from tests.plain import Odd, anything, is_plain, nested, nested_list, otherwise, stretched
from tests.walks import (
    CROSSED, THIRTY, TIED, drawn_pairs, fewest_waves, free_pairs, good_set, great_pairs, mirrored, plain_needs,
    plainly_ring, reach, row_plan, track, turns_plan, whole_rows,
)

GREAT = 10 ** 29
PLAN, HERE, THERE = CROSSED, (0, 0), (4, 5)
CHAIN = ((1, 0, 3), (0, 1, 4))


def plainly_waits(one, other, asked, many, thing):
    """The words of [17], place by place, the needs being handed in."""
    if not whole_rows(thing, 3) or (thing == ()) != (one == other):
        return False
    total = 0
    for number, here, there in thing:
        if not 0 <= number < len(one):
            return False
        line = track(one[number], other[number])
        if here not in line or there not in line or line.index(here) >= line.index(there):
            return False
        total += line.index(there) - line.index(here)
    linked = all((i, stop, j, come) in asked for (j, begun, come), (i, stop, end) in zip(thing, thing[1:]))
    return total == many and linked


def length(chain):
    return sum(abs(here - there) for thing, here, there in chain)


def some_chain(one, other, asked, dice):
    """A drawn tuple of stretches, each waiting for the one ahead, from any place of any way on."""
    moving = [t for t in range(len(one)) if one[t] != other[t]]
    if not moving:
        return ()
    thing = dice.choice(moving)
    here = dice.choice(track(one[thing], other[thing])[:-1])
    found = []
    while True:
        line = track(one[thing], other[thing])
        ends = line[line.index(here) + 1:]
        after = [(i, stop, j, place) for i, stop, j, place in asked if j == thing and place in ends]
        if not after or dice.randrange(4) == 0:
            return tuple(found) + ((thing, here, dice.choice(ends)),)
        i, stop, j, place = dice.choice(after)
        found.append((thing, here, place))
        thing, here = i, stop


def changed_chains(chain, many):
    """(many, chain) with something otherwise that may do or not."""
    yield from [(many + 1, chain), (many - 1, chain), (0, chain), (many, chain[::-1]), (-many, chain)]
    for at, (thing, here, there) in enumerate(chain):
        ahead, behind = chain[:at], chain[at + 1:]
        line = track(here, there)
        others = [(), ((thing, there, here),), chain[at:at + 1] * 2]
        others += [((thing, here, between), (thing, between, there)) for between in line[1:-1]]
        others += [((thing, between, there),) for between in line[1:-1]]
        others += [((thing, here, between),) for between in line[1:-1]]
        others += [((thing, here + k, there),) for k in (-1, 1)] + [((thing, here, there + k),) for k in (-1, 1)]
        others += [((thing, here, chain[at + 1][2]),) for k in range(1) if behind]
        for other in others:
            yield length(ahead + other + behind), ahead + other + behind
            yield many, ahead + other + behind
    for cut in range(len(chain)):
        yield length(chain[cut:]), chain[cut:]
        yield length(chain[:cut]), chain[:cut]


class Checked(unittest.TestCase):
    def refused(self, call, *told, **named):
        with self.assertRaises(Knotted) as caught:
            call(*told, **named)
        return caught.exception.ring


class Waits(Checked):
    def test_as_written(self):
        self.assertEqual(length(waits(PLAN, HERE, THERE)), 6)
        self.assertEqual(waits(Plan((4,)), (1,), (4,)), ((0, 1, 4),))
        self.assertEqual(waits(Plan((4,)), (4,), (1,)), ((0, 4, 1),))
        plan = Plan((2, 3), (((0, "to", 0), (1, "from", 3)),))
        self.assertEqual(waits(plan, (0, 0), (2, 3)), ((1, 0, 3), (0, 0, 2)))
        self.assertEqual(waits(plan, (2, 3), (0, 0)), ((0, 2, 0), (1, 3, 0)))

    def test_as_many_steps_as_waves_each_waiting_for_the_one_ahead(self):
        lengths = {}
        for plan, one, other, good in free_pairs(300, 261):
            told, asked = waits(plan, one, other), plain_needs(plan, one, other)
            lengths[len(told)] = lengths.get(len(told), 0) + 1
            many = fewest_waves(good, one)[other]
            self.assertEqual((length(told), waves(plan, one, other)), (many, many))
            self.assertTrue(plainly_waits(one, other, asked, many, told), (plan.rules, one, other, told))
            self.assertIs(shows_waits(plan, one, other, many, told), True)
        self.assertTrue(lengths[0] > 10 and lengths[2] > 30 and lengths[3] > 30 and lengths[4] > 5, lengths)

    def test_empty_just_where_one_is_other(self):
        for plan, one, other, good in free_pairs(100, 262):
            self.assertEqual(waits(plan, one, one), ())
            self.assertEqual(waits(plan, one, other) == (), one == other)

    def test_lines_of_thirty_figures(self):
        start, end = (0,) * 12, (THIRTY,) * 12
        self.assertEqual(waits(row_plan(), start, end), tuple((k, 0, THIRTY) for k in range(11, -1, -1)))
        self.assertEqual(waits(row_plan(), end, start), tuple((k, THIRTY, 0) for k in range(12)))
        for first in (0, 10 ** 29, THIRTY - 20):
            for plan in (turns_plan(first=first), mirrored(turns_plan(first=first))):
                for one, other in (((0, 0), (THIRTY, THIRTY)), ((THIRTY, THIRTY), (0, 0))):
                    self.check_great(plan, one, other)

    def test_great_plans(self):
        several = 0
        for plan, one, other in great_pairs(40, 263):
            for start, end in ((one, other), (other, one)):
                if way(plan, start, end)[0] == "way":
                    several += self.check_great(plan, start, end) > 1
        self.assertGreater(several, 5)

    def test_at_great_places(self):
        for plan, one, other, good in free_pairs(80, 264):
            if one != other:
                ends = [tuple(place * GREAT for place in end) for end in (one, other)]
                self.check_great(stretched(plan, GREAT), *ends)

    def check_great(self, plan, one, other):
        told, asked, many = waits(plan, one, other), needs(plan, one, other), waves(plan, one, other)
        self.assertEqual(length(told), many)
        for thing, here, there in told:
            line = sorted((one[thing], other[thing]))
            self.assertTrue(line[0] <= min(here, there) < max(here, there) <= line[1])
            self.assertEqual(there > here, other[thing] > one[thing])
        for (j, begun, come), (i, stop, end) in zip(told, told[1:]):
            self.assertIn((i, stop, j, come), asked)
        self.assertIs(shows_waits(plan, one, other, many, told), True)
        for count in (many - 1, many + 1, 0):
            self.assertIs(shows_waits(plan, one, other, count, told), False)
        for cut in range(1, len(told)):
            for part in (told[cut:], told[:cut]):
                self.assertIs(shows_waits(plan, one, other, length(part), part), True)
                self.assertIs(shows_waits(plan, one, other, many, part), False)
        thing, here, there = told[-1]
        shorter = told[:-1] + ((thing, here, there - (1 if there > here else -1)),)
        if shorter[-1][1] != shorter[-1][2]:
            self.assertIs(shows_waits(plan, one, other, many - 1, shorter), True)
        return len(told)


class Shown(Checked):
    def test_as_written(self):
        for many, thing in [
            (6, CHAIN), (3, CHAIN[:1]), (3, CHAIN[1:]), (1, ((1, 4, 5),)), (4, ((0, 0, 4),)), (5, ((1, 0, 5),)),
            (4, ((1, 0, 3), (0, 1, 2))), (6, ((1, 0, 3), (0, 1, 2), (1, 3, 5))), (5, ((1, 1, 3), (0, 1, 4))),
        ]:
            self.assertIs(shows_waits(PLAN, HERE, THERE, many, thing), True, (many, thing))
        for many, thing in [
            (5, CHAIN), (7, CHAIN), (0, ()), (6, ()), (6, CHAIN[::-1]), (7, ((1, 0, 3), (0, 0, 4))), (3, ((1, 3, 0),)),
            (6, ((1, 0, 2), (0, 1, 4))), (8, ((1, 0, 5), (0, 1, 4))), (6, ((1, 0, 1), (1, 1, 3), (0, 1, 4))),
            (6, ((1, 0, 3), (0, 1, 2), (0, 2, 4))), (6, ((1, 0, 3), (0, 1, 4), (0, 4, 4))), (4, ((2, 0, 4),)),
            (6, ((1, 0, 6),)), (6, ((1, -1, 5),)), (4, ((-1, 0, 4),)), (9, CHAIN + CHAIN[1:]), (0, ((0, 1, 1),)),
        ]:
            self.assertIs(shows_waits(PLAN, HERE, THERE, many, thing), False, (many, thing))

    def test_where_one_is_other(self):
        for plan, one, other in drawn_pairs(60, 271):
            self.assertIs(shows_waits(plan, one, one, 0, ()), True)
            for many, thing in [(1, ()), (-1, ()), (0, ((0, one[0], one[0]),)), (1, ((0, one[0], one[0] + 1),)),
                                (0, []), (0, None), (0, ((),)), (THIRTY, ())]:
                self.assertIs(shows_waits(plan, one, one, many, thing), False)

    def test_other_ones_that_do_or_do_not(self):
        told = {True: 0, False: 0}
        for plan, one, other, good in free_pairs(200, 272):
            chain, asked = waits(plan, one, other), plain_needs(plan, one, other)
            for many, thing in changed_chains(chain, length(chain)):
                expected = plainly_waits(one, other, asked, many, thing)
                told[expected] += 1
                self.assertIs(shows_waits(plan, one, other, many, thing), expected, (plan.rules, one, other, thing))
        self.assertGreater(min(told.values()), 500, told)

    def test_chains_of_fewer_steps_than_there_are_waves(self):
        dice = random.Random(273)
        told = {True: 0, False: 0}
        for plan, one, other, good in free_pairs(200, 273):
            asked, many = plain_needs(plan, one, other), waves(plan, one, other)
            for k in range(6):
                chain = some_chain(one, other, asked, dice)
                self.assertTrue(plainly_waits(one, other, asked, length(chain), chain))
                self.assertIs(shows_waits(plan, one, other, length(chain), chain), True)
                # No chain has more steps than there are waves.
                self.assertLessEqual(length(chain), many)
                told[length(chain) < many] += 1
        self.assertGreater(min(told.values()), 200, told)

    def test_with_something_otherwise_at_any_place_and_depth(self):
        dice = random.Random(274)
        told = {True: 0, False: 0}
        for plan, one, other, good in free_pairs(80, 274):
            chain, asked = waits(plan, one, other), plain_needs(plan, one, other)
            for thing in otherwise(chain, dice):
                for many in {length(chain), length(thing) if whole_rows(thing, 3) else 0}:
                    expected = plainly_waits(one, other, asked, many, thing)
                    told[expected] += 1
                    self.assertIs(shows_waits(plan, one, other, many, thing), expected, (plan.rules, one, other, thing))
        self.assertGreater(min(told.values()), 100, told)

    def test_of_anything(self):
        for thing in [None, [], list(CHAIN), [list(row) for row in CHAIN], (CHAIN,), nested(CHAIN[0], 28), Odd(),
                      nested_list(CHAIN[0], 28), nested((), 29), *anything()]:
            for many in (0, 3, 6):
                self.assertIs(shows_waits(PLAN, HERE, THERE, many, thing), False)
                self.assertIs(shows_waits(PLAN, HERE, THERE, many, (thing,)), False)
                for at in range(2):
                    self.assertIs(shows_waits(PLAN, HERE, THERE, many, CHAIN[:at] + (thing,) + CHAIN[at + 1:]), False)
                    for k in range(3):
                        row = CHAIN[at][:k] + ((thing,),) + CHAIN[at][k + 1:]
                        self.assertIs(shows_waits(PLAN, HERE, THERE, many, CHAIN[:at] + (row,) + CHAIN[at + 1:]), False)

    def test_truths_lists_and_parts_too_few_or_too_many(self):
        for row in [(True, 0, 3), (1, False, 3), [1, 0, 3], (1, 0), (1, 0, 3, 3), (1, 0, "3"), (1, None, 3),
                    (1, 0, Odd()), (Odd(), 0, 3), ((1, 0, 3),)]:
            self.assertIs(shows_waits(PLAN, HERE, THERE, 6, (row, CHAIN[1])), False)
        for row in [(False, 1, 4), (0, True, 4), [0, 1, 4]]:
            self.assertIs(shows_waits(PLAN, HERE, THERE, 6, (CHAIN[0], row)), False)


class Refused(Checked):
    def test_by_both_whatever_else_is_handed_in(self):
        refused = 0
        for plan, one, other in drawn_pairs(250, 281):
            if other in reach(good_set(plan), one):
                continue
            refused += 1
            asked = plain_needs(plan, one, other)
            for call, *more in [(waits,), (shows_waits, 0, ()), (shows_waits, 6, CHAIN), (shows_waits, None, None),
                                (shows_waits, "x", [Odd()])]:
                self.assertTrue(plainly_ring(one, other, asked, self.refused(call, plan, one, other, *more)))
        self.assertGreater(refused, 40)
        for thing in anything():
            self.refused(shows_waits, TIED, (0, 0), (1, 1), 3, thing)
            self.refused(shows_waits, TIED, (0, 0), (1, 1), thing, thing)

    def test_great_plans(self):
        refused = 0
        for plan, one, other in great_pairs(20, 282):
            if way(plan, one, other)[0] == "knot":
                refused += 1
                for call, *more in [(waits,), (shows_waits, 1, ())]:
                    ring = self.refused(call, plan, one, other, *more)
                    self.assertTrue(plainly_ring(one, other, needs(plan, one, other), ring))
        self.assertGreater(refused, 2)


class Ways(Checked):
    """What [2] says of both."""

    def test_by_names(self):
        self.assertEqual(length(waits(other=THERE, one=HERE, plan=PLAN)), 6)
        self.assertIs(shows_waits(thing=CHAIN, many=6, other=THERE, one=HERE, plan=PLAN), True)
        self.assertEqual(len(self.refused(waits, other=(1, 1), one=(0, 0), plan=TIED)), 2)

    def test_kinds_and_asked_again(self):
        for plan, one, other, good in free_pairs(60, 291):
            tops, rules = plan.tops, plan.rules
            told = [waits(p, one, other) for p in (plan, plan, Plan(tops, rules))]
            self.assertTrue(is_plain(told[0]))
            self.assertEqual(told[:1] * 3, told)
            self.assertEqual((plan.tops, plan.rules), (tops, rules))

    def test_what_is_handed_in_stays_as_it_was(self):
        handed = [list(CHAIN), tuple(list(row) for row in CHAIN), ({"a": [1]},), [[1, 0, 3]]]
        before = copy.deepcopy(handed)
        for thing, many in itertools.product(handed, (0, 6)):
            self.assertIs(shows_waits(PLAN, HERE, THERE, many, thing), False)
        self.assertEqual(handed, before)


if __name__ == "__main__":
    unittest.main()
