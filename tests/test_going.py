"""Promises [13] and [14], and [3] (b) and (c): ways without a step too many, knots, and the one door to each goal."""

import random
import unittest

from notbothout.going import door, to_door, way
from notbothout.middles import far, is_between
from notbothout.needs import needs
from notbothout.plans import Plan
from notbothout.ways import steps, walked
from tests.plain import good_ones, is_plain, small_plans, stretched
from tests.walks import (
    THIRTY, TIED, drawn_pairs, good_set, great_pairs, mirrored, nearer, plain_needs, plain_steps, plainly_ring, reach,
    rooms_of, row_plan, turns_plan,
)

GREAT = 10 ** 29
# Thing 0 beyond 1 waits for thing 1 at 3; thing 1 beyond 1 waits for thing 0 at 1.
PLAN = Plan((4, 5), (((0, "to", 1), (1, "from", 3)), ((1, "to", 1), (0, "from", 1))))


def small_pairs(many, seed):
    """(plan, one, other), of small plans and any two of their good standings."""
    dice = random.Random(seed)
    yield from drawn_pairs(many, seed)
    for plan in small_plans(many // 2, seed):
        good = good_ones(plan)
        if good:
            yield plan, dice.choice(good), dice.choice(good)


def gone(good, start, goal, dice):
    """Where one is at last who goes towards the goal by steps, drawn ones, each nearer to it."""
    here = start
    while True:
        free = list(nearer(good, here, goal))
        if not free:
            return here
        here = dice.choice(free)


class Checked(unittest.TestCase):
    def check_way(self, plan, one, other, rows):
        """A way as [13] tells it, of small plans or great ones."""
        self.assertEqual(walked(plan, one, rows), other)
        self.assertEqual(steps(one, rows), far(one, other))
        self.assertLessEqual(len(rows), len(plan) + len(needs(plan, one, other)))

    def check_small(self, plan, one, other, good):
        word, told = way(plan, one, other)
        self.assertEqual(word, "way" if other in reach(good, one) else "knot", (plan.rules, one, other))
        asked = plain_needs(plan, one, other)
        if word == "knot":
            self.assertTrue(plainly_ring(one, other, asked, told), (plan.rules, one, other, told))
            return word
        row = plain_steps(one, told)
        self.assertTrue(row[-1] == other and set(row) <= good)
        self.assertTrue(len(row) - 1 == far(one, other) == reach(good, one)[other])
        self.assertLessEqual(len(told), len(plan) + len(asked))
        self.check_way(plan, one, other, told)
        return word


class Way(Checked):
    def test_as_written(self):
        word, told = way(PLAN, (0, 0), (4, 5))
        self.assertEqual(word, "way")
        self.check_way(PLAN, (0, 0), (4, 5), told)
        self.assertEqual(way(Plan((4,)), (1,), (3,)), ("way", ((0, 3),)))
        self.assertEqual(way(Plan((4,)), (3,), (1,)), ("way", ((0, 1),)))

    def test_knots_as_written(self):
        word, ring = way(TIED, (0, 0), (1, 1))
        self.assertEqual((word, sorted(ring)), ("knot", [(0, 0, 1, 1), (1, 0, 0, 1)]))
        gap = Plan((6,), (((0, "to", 1), (0, "from", 4)),))
        self.assertEqual(way(gap, (0,), (6,)), ("knot", ((0, 1, 0, 4),)))
        self.assertEqual(way(gap, (6,), (0,)), ("knot", ((0, 4, 0, 1),)))

    def test_from_one_to_the_same_one(self):
        for plan, one, other in small_pairs(100, 151):
            self.assertEqual(way(plan, one, one), ("way", ()))
        self.assertEqual(way(row_plan(), (THIRTY,) * 12, (THIRTY,) * 12), ("way", ()))

    def test_against_all_steps_of_small_plans(self):
        told = {"way": 0, "knot": 0}
        for plan, one, other in small_pairs(600, 152):
            good = good_set(plan)
            for start, end in ((one, other), (other, one)):
                told[self.check_small(plan, start, end, good)] += 1
        self.assertGreater(min(told.values()), 300, told)

    def test_many_rules(self):
        for plan, one, other in drawn_pairs(150, 153, most_rules=40):
            self.check_small(plan, one, other, good_set(plan))

    def test_between_all_good_standings_of_some_plans(self):
        for plan, one, other in drawn_pairs(25, 154, most_rules=5):
            good = good_set(plan)
            for start in sorted(good)[:12]:
                for end in good:
                    self.check_small(plan, start, end, good)

    def test_each_good_step_towards_the_end_begins_a_way(self):
        asked = 0
        for plan, one, other in small_pairs(250, 155):
            good = good_set(plan)
            if other in reach(good, one):
                for here in nearer(good, one, other):
                    asked += 1
                    self.assertEqual(way(plan, here, other)[0], "way")
        self.assertGreater(asked, 200)

    def test_at_great_places(self):
        dice = random.Random(156)
        told = {"way": 0, "knot": 0}
        for plan, one, other in drawn_pairs(250, 156):
            ends = [tuple(place * GREAT + dice.randrange(GREAT) for place in end) for end in (one, other)]
            great = stretched(plan, GREAT)
            word, rows = way(great, *ends)
            told[word] += 1
            self.assertEqual(word, way(plan, one, other)[0])
            if word == "way":
                self.check_way(great, *ends, rows)
            else:
                self.assertTrue(plainly_ring(*ends, needs(great, *ends), rows))
        self.assertGreater(min(told.values()), 50, told)

    def test_twelve_things_forty_rules_and_thirty_figures(self):
        told = {"way": 0, "knot": 0}
        for at, (plan, one, other) in enumerate(great_pairs(40, 157)):
            word, rows = way(plan, one, other)
            told[word] += 1
            if word == "way":
                self.check_way(plan, one, other, rows)
            else:
                self.assertEqual(at % 2, 1)
                self.assertTrue(plainly_ring(one, other, needs(plan, one, other), rows))
        self.assertGreater(min(told.values()), 10, told)

    def test_one_waits_for_another_one_that_for_the_next(self):
        start, end = (0,) * 12, (THIRTY,) * 12
        for plan in (row_plan(), mirrored(row_plan())):
            for one, other in ((start, end), (end, start)):
                word, rows = way(plan, one, other)
                self.assertEqual((word, len(rows)), ("way", 12))
                self.check_way(plan, one, other, rows)

    def test_things_that_go_a_place_each_by_turns(self):
        start, end = (0, 0), (THIRTY, THIRTY)
        for first in (0, 10 ** 29, THIRTY - 20):
            for plan in (turns_plan(first=first), mirrored(turns_plan(first=first))):
                for one, other in ((start, end), (end, start)):
                    word, rows = way(plan, one, other)
                    self.assertEqual(word, "way")
                    self.check_way(plan, one, other, rows)
                    self.assertGreater(len(rows), 38)

    def test_a_great_ring(self):
        # Each of twelve things leaves 0 only when the next one has come to its top.
        plan = Plan((THIRTY,) * 12, tuple(((k, "to", 0), ((k + 1) % 12, "from", THIRTY)) for k in range(12)))
        word, ring = way(plan, (0,) * 12, (THIRTY,) * 12)
        self.assertEqual((word, len(ring)), ("knot", 12))
        self.assertTrue(plainly_ring((0,) * 12, (THIRTY,) * 12, needs(plan, (0,) * 12, (THIRTY,) * 12), ring))


class Door(Checked):
    def test_as_written(self):
        self.assertEqual(door(TIED, (0, 0), (1, 1)), (0, 0))
        self.assertEqual(to_door(TIED, (0, 0), (1, 1)), ())
        gap = Plan((6, 3), (((0, "to", 1), (0, "from", 4)),))
        self.assertEqual(door(gap, (0, 0), (6, 3)), (1, 3))
        self.assertEqual(door(gap, (5, 1), (0, 3)), (4, 3))
        self.check_way(gap, (5, 1), (4, 3), to_door(gap, (5, 1), (0, 3)))

    def test_against_steps_in_any_order_from_each_standing_of_the_room(self):
        dice = random.Random(161)
        told = {True: 0, False: 0}
        for plan, one, other in small_pairs(200, 161):
            good = good_set(plan)
            room = sorted(reach(good, one))
            told[other in room] += 1
            last = door(plan, one, other)
            self.assertIn(last, room)
            self.assertEqual(last == other, other in room)
            for here in room:
                self.assertEqual(door(plan, here, other), last)
                self.assertEqual(gone(good, here, other, dice), last, (plan.rules, here, other))
                self.assertTrue(is_between(here, last, other))
        self.assertGreater(min(told.values()), 50, told)

    def test_each_goal_has_one_door_in_each_room(self):
        for plan, one, other in drawn_pairs(25, 162):
            good = good_set(plan)
            for room in rooms_of(good):
                for goal in sorted(good)[:15]:
                    doors = {door(plan, here, goal) for here in room}
                    self.assertEqual(len(doors), 1)
                    self.assertEqual(doors == {goal}, goal in room)

    def test_a_way_there_with_no_step_and_no_row_too_many(self):
        told = {True: 0, False: 0}
        for plan, one, other in small_pairs(400, 163):
            last, rows = door(plan, one, other), to_door(plan, one, other)
            told[last == other] += 1
            row = plain_steps(one, rows)
            self.assertTrue(row[-1] == last and len(row) - 1 == far(one, last))
            self.assertLessEqual(set(row), good_set(plan))
            self.assertLessEqual(len(rows), len(plan) + len(plain_needs(plan, one, last)))
            self.check_way(plan, one, last, rows)
        self.assertGreater(min(told.values()), 100, told)

    def test_the_goal_itself_and_the_standing_itself(self):
        for plan, one, other in small_pairs(60, 164):
            self.assertEqual((door(plan, one, one), to_door(plan, one, one)), (one, ()))
            if way(plan, one, other)[0] == "way":
                self.assertEqual(door(plan, one, other), other)

    def test_at_great_places(self):
        for plan, one, other in drawn_pairs(150, 165):
            small, great = door(plan, one, other), stretched(plan, GREAT)
            ends = [tuple(place * GREAT for place in end) for end in (one, other)]
            last = door(great, *ends)
            self.assertEqual(tuple(place // GREAT for place in last), small)
            self.check_way(great, ends[0], last, to_door(great, *ends))

    def test_great_plans(self):
        short = 0
        for plan, one, other in great_pairs(30, 166):
            last = door(plan, one, other)
            short += last != other
            self.check_way(plan, one, last, to_door(plan, one, other))
            self.assertTrue(is_between(one, last, other))
            # No step nearer to the goal is good from there.
            for thing, (here, there) in enumerate(zip(last, other)):
                if here != there:
                    place = here + (1 if there > here else -1)
                    self.assertEqual(self.refused_at(plan, last, ((thing, place),)), 0)
            self.assertEqual(way(plan, last, other)[0], "way" if last == other else "knot")
            self.assertEqual(door(plan, last, other), last)
        self.assertGreater(short, 10)

    def refused_at(self, plan, standing, rows):
        with self.assertRaises(ValueError) as caught:
            walked(plan, standing, rows)
        return caught.exception.at


class Ways(Checked):
    """What [2] says of all of them."""

    def test_by_names(self):
        self.assertEqual(way(other=(1, 1), one=(0, 0), plan=TIED)[0], "knot")
        self.assertEqual(door(goal=(1, 1), standing=(0, 0), plan=TIED), (0, 0))
        self.assertEqual(to_door(goal=(1, 1), standing=(0, 0), plan=TIED), ())

    def test_kinds_and_asked_again(self):
        for plan, one, other in small_pairs(80, 171):
            tops, rules = plan.tops, plan.rules
            told = [(way(p, one, other), door(p, one, other), to_door(p, one, other))
                    for p in (plan, plan, Plan(tops, rules))]
            self.assertTrue(is_plain(told[0]))
            self.assertEqual(told[:1] * 3, told)
            self.assertEqual((plan.tops, plan.rules), (tops, rules))


if __name__ == "__main__":
    unittest.main()
