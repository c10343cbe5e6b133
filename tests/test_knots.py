"""Promise [13]: which rings of needs show that there is no way."""

import copy
import itertools
import random
import unittest

from notbothout.going import way
from notbothout.knots import shows_knot
from notbothout.needs import needs
from notbothout.plans import Plan
from tests.plain import Odd, anything, nested, nested_list, otherwise, stretched
from tests.walks import THIRTY, drawn_pairs, good_set, great_pairs, plain_needs, plainly_ring, reach

GREAT = 10 ** 29
# Each of two things goes beyond 1 only when the other one has come to 2; thing 2 waits for thing 0, nobody for it.
TIED = Plan((4, 4, 4), (
    ((0, "to", 1), (1, "from", 2)), ((1, "to", 1), (0, "from", 2)), ((2, "to", 0), (0, "from", 1)),
))
HERE, THERE = (0, 0, 0), (4, 4, 4)
RING = ((0, 1, 1, 2), (1, 1, 0, 2))


def knots(many, seed):
    """(plan, one, other, needs, ring), of small plans, where no way leads from one to the other."""
    for plan, one, other in drawn_pairs(many, seed):
        for start, end in ((one, other), (other, one)):
            word, told = way(plan, start, end)
            if word == "knot":
                yield plan, start, end, plain_needs(plan, start, end), told


class Rings(unittest.TestCase):
    def test_as_written(self):
        self.assertIs(shows_knot(TIED, HERE, THERE, RING), True)
        self.assertIs(shows_knot(TIED, HERE, THERE, RING[::-1]), True)
        for thing in [RING[:1], RING[1:], RING + RING[:1], RING + ((2, 0, 0, 1),), ((2, 0, 0, 1), *RING),
                      ((2, 0, 0, 1),), (RING[0], RING[0]), (RING[0][::-1], RING[1])]:
            self.assertIs(shows_knot(TIED, HERE, THERE, thing), False, thing)

    def test_a_place_that_is_at_the_stop_or_ahead_of_it_makes_no_knot(self):
        for come, held in itertools.product(range(1, 5), range(4)):
            plan = Plan((4, 4), (((0, "to", 1), (1, "from", come)), ((1, "to", held), (0, "from", 2))))
            ring = ((0, 1, 1, come), (1, held, 0, 2))
            self.assertIs(shows_knot(plan, (0, 0), (4, 4), ring), come > held, ring)
            self.assertEqual(way(plan, (0, 0), (4, 4))[0], "knot" if come > held else "way")
            back = ((1, come, 0, 1), (0, 2, 1, held))
            self.assertIs(shows_knot(plan, (4, 4), (0, 0), back), come > held, back)

    def test_of_one_thing_alone(self):
        gap = Plan((6,), (((0, "to", 1), (0, "from", 4)),))
        self.assertIs(shows_knot(gap, (0,), (6,), ((0, 1, 0, 4),)), True)
        self.assertIs(shows_knot(gap, (0,), (6,), ((0, 1, 0, 4),) * 5), True)
        self.assertIs(shows_knot(gap, (6,), (0,), ((0, 4, 0, 1),)), True)
        self.assertIs(shows_knot(gap, (6,), (0,), ((0, 1, 0, 4),)), False)
        self.assertIs(shows_knot(gap, (0,), (1,), ((0, 1, 0, 4),)), False)
        self.assertIs(shows_knot(Plan((6,), (((0, "to", 1), (0, "from", 2)),)), (0,), (6,), ((0, 1, 0, 2),)), False)

    def test_each_told_ring_begun_elsewhere_and_more_than_once_round(self):
        lengths = {}
        for plan, one, other, asked, ring in knots(600, 181):
            lengths[len(ring)] = lengths.get(len(ring), 0) + 1
            for at in range(len(ring)):
                turned = ring[at:] + ring[:at]
                for times in (1, 2, 30):
                    self.assertIs(shows_knot(plan, one, other, turned * times), True)
        self.assertTrue(lengths[1] > 30 and lengths[2] > 30 and lengths[3] > 10, lengths)

    def test_with_one_left_out_twice_turned_about_or_put_elsewhere(self):
        told = {True: 0, False: 0}
        for plan, one, other, asked, ring in knots(400, 182):
            others = [ring[::-1], tuple((j, place, i, stop) for i, stop, j, place in ring)]
            for at, need in enumerate(ring):
                ahead, behind = ring[:at], ring[at + 1:]
                others += [ahead + behind, ahead + (need, need) + behind, ahead + (need[::-1],) + behind]
                others += [ahead + (any_one,) + behind for any_one in asked]
                others += [ahead + (any_one, need) + behind for any_one in asked]
            for thing in others:
                expected = plainly_ring(one, other, asked, thing)
                told[expected] += 1
                self.assertIs(shows_knot(plan, one, other, thing), expected, (plan.rules, one, other, thing))
        self.assertGreater(min(told.values()), 100, told)

    def test_rows_of_needs_in_any_order(self):
        told = {True: 0, False: 0}
        for plan, one, other in drawn_pairs(300, 183):
            asked = plain_needs(plan, one, other)
            for many in (1, 2, 3):
                for thing in itertools.islice(itertools.product(asked, repeat=many), 60):
                    expected = plainly_ring(one, other, asked, thing)
                    told[expected] += 1
                    self.assertIs(shows_knot(plan, one, other, thing), expected)
                    if expected:
                        self.assertEqual(way(plan, one, other)[0], "knot")
        self.assertGreater(min(told.values()), 100, told)

    def test_rings_between_other_standings(self):
        dice = random.Random(184)
        told = {True: 0, False: 0}
        for plan, one, other, asked, ring in knots(150, 184):
            good = sorted(good_set(plan))
            for k in range(12):
                start, end = dice.choice(good), dice.choice(good)
                expected = plainly_ring(start, end, plain_needs(plan, start, end), ring)
                told[expected] += 1
                self.assertIs(shows_knot(plan, start, end, ring), expected)
            self.assertIs(shows_knot(plan, other, one, ring), plainly_ring(
                other, one, plain_needs(plan, other, one), ring))
            self.assertIs(shows_knot(plan, one, one, ring), False)
        self.assertGreater(min(told.values()), 30, told)

    def test_none_where_a_way_is(self):
        asked_ones = 0
        for plan, one, other in drawn_pairs(250, 185):
            if other in reach(good_set(plan), one):
                asked = plain_needs(plan, one, other)
                for many in (1, 2, 3):
                    for thing in itertools.islice(itertools.product(asked, repeat=many), 60):
                        asked_ones += 1
                        self.assertIs(shows_knot(plan, one, other, thing), False)
        self.assertGreater(asked_ones, 500)

    def test_with_something_otherwise_at_any_place_and_depth(self):
        dice = random.Random(186)
        for plan, one, other, asked, ring in knots(150, 186):
            for thing in otherwise(ring, dice):
                expected = plainly_ring(one, other, asked, thing)
                self.assertIs(shows_knot(plan, one, other, thing), expected, (plan.rules, one, other, thing))

    def test_of_anything(self):
        for thing in [(), [], list(RING), [list(need) for need in RING], None, "", "knot", ("knot", RING), (RING,),
                      nested(RING[0], 28), nested_list(RING[0], 28), nested((), 29), Odd(), *anything()]:
            self.assertIs(shows_knot(TIED, HERE, THERE, thing), False)
            self.assertIs(shows_knot(TIED, HERE, THERE, (thing,)), False)
            self.assertIs(shows_knot(TIED, HERE, THERE, (RING[0], thing)), False)
            self.assertIs(shows_knot(TIED, HERE, THERE, (thing, RING[1])), False)
            for at, k in itertools.product(range(2), range(4)):
                need = RING[at][:k] + ((thing,),) + RING[at][k + 1:]
                self.assertIs(shows_knot(TIED, HERE, THERE, RING[:at] + (need,) + RING[at + 1:]), False)

    def test_truths_lists_and_parts_too_few_or_too_many(self):
        for need in [(0, True, 1, 2), (False, 1, 1, 2), (0, 1, True, 2), [0, 1, 1, 2], (0, 1, 1), (0, 1, 1, 2, 2),
                     (0, 1, 1, "2"), (0, 1, 1, None), (0, 1, 1, Odd()), (Odd(),) * 4, ((0, 1), (1, 2)), Odd()]:
            self.assertIs(shows_knot(TIED, HERE, THERE, (need, RING[1])), False)
            self.assertIs(shows_knot(TIED, HERE, THERE, (RING[1], need)), False)

    def test_at_great_places(self):
        found = 0
        for plan, one, other in drawn_pairs(150, 187):
            great = stretched(plan, GREAT)
            ends = [tuple(place * GREAT for place in end) for end in (one, other)]
            word, ring = way(great, *ends)
            if word == "knot":
                found += 1
                self.assertIs(shows_knot(great, *ends, ring), True)
                self.assertIs(shows_knot(great, *ends, ring * 50), True)
                self.assertIs(shows_knot(great, *ends[::-1], ring), False)
        self.assertGreater(found, 30)

    def test_great_plans(self):
        found = 0
        for plan, one, other in great_pairs(30, 188):
            word, ring = way(plan, one, other)
            if word == "knot":
                found += 1
                asked = needs(plan, one, other)
                self.assertIs(shows_knot(plan, one, other, ring), True)
                for at, need in itertools.product(range(len(ring)), asked):
                    thing = ring[:at] + (need,) + ring[at + 1:]
                    self.assertIs(shows_knot(plan, one, other, thing), plainly_ring(one, other, asked, thing))
                for change in (-1, 1):
                    thing = ((ring[0][0], ring[0][1] + change, *ring[0][2:]), *ring[1:])
                    self.assertIs(shows_knot(plan, one, other, thing), False)
        self.assertGreater(found, 5)
        plan = Plan((THIRTY,) * 12, tuple(((k, "to", 0), ((k + 1) % 12, "from", THIRTY)) for k in range(12)))
        ring = tuple((k, 0, (k + 1) % 12, THIRTY) for k in range(12))
        self.assertIs(shows_knot(plan, (0,) * 12, (THIRTY,) * 12, ring), True)
        self.assertIs(shows_knot(plan, (0,) * 12, (THIRTY,) * 12, ring[:-1]), False)


class Ways(unittest.TestCase):
    """What [2] says of it."""

    def test_by_names(self):
        self.assertIs(shows_knot(thing=RING, other=THERE, one=HERE, plan=TIED), True)

    def test_what_is_handed_in_stays_as_it_was(self):
        handed = [list(RING), ([0, 1, 1, 2], RING[1]), ({"a": [1]},), [[0, 1, 1, 2]]]
        before = copy.deepcopy(handed)
        for thing in handed:
            self.assertIs(shows_knot(TIED, HERE, THERE, thing), False)
        self.assertEqual(handed, before)


if __name__ == "__main__":
    unittest.main()
