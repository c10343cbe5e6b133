"""Promise [18]: bundles of steps that part all good standings alike."""

import itertools
import random
import unittest

from notbothout.bundles import bundle
from notbothout.plans import Plan
from tests.bound import bound_steps, plain_bundle, ring_rules, ringed_pairs, steps_in
from tests.plain import crowded_plans, good_ones, great_plans, is_plain, plainly_other, sides_of, small_plans, stretched
from tests.walks import THIRTY, TIED, drawn_pairs, great_pairs, mirrored, row_plan, turns_plan

GREAT = 10 ** 29


def steps_of(plan):
    return [(thing, place) for thing, top in enumerate(plan.tops) for place in range(top)]


def small_ones(many, seed):
    """Small plans; rules of any sides, of one side twice, of rings that must pass at once."""
    yield from small_plans(many, seed)
    yield from [plan for plan, one, other in ringed_pairs(many, seed)]
    yield from [plan for plan, one, other in drawn_pairs(many, seed)]


def doubled_plans(many, seed):
    """Small plans with rules of a side twice, or of its other one twice, among others."""
    dice = random.Random(seed)
    for plan in small_plans(many, seed, most_rules=5):
        sides = sides_of(plan.tops)
        more = [dice.choice(sides) for k in range(2)]
        more.append(plainly_other(plan, more[0]) or more[1])
        yield Plan(plan.tops, plan.rules + tuple((side, side) for side in more[dice.randrange(3):]))


def turned(moves):
    return tuple((thing, there, here) for thing, here, there in moves)


def stretched_move(move, by):
    """The move with each place made a row of so many places: from the last of one row to the first of another."""
    thing, here, there = move
    if there > here:
        return thing, here * by + by - 1, there * by
    return thing, here * by, there * by + by - 1


class Bundle(unittest.TestCase):
    def test_as_written(self):
        self.assertEqual(bundle(TIED, 0, 0), ((0, 0, 1), (1, 0, 1)))
        self.assertEqual(bundle(TIED, 1, 0), ((0, 0, 1), (1, 0, 1)))
        self.assertEqual(bundle(Plan((4, 5)), 0, 2), ((0, 2, 3),))
        gap = Plan((6, 3), (((0, "to", 1), (0, "from", 4)), ((0, "to", 3), (1, "to", 1))))
        for place in (1, 2, 3):
            self.assertEqual(bundle(gap, 0, place), ((0, 1, 4),))
        self.assertEqual(bundle(gap, 0, 0), ((0, 0, 1),))
        self.assertEqual(bundle(gap, 1, 1), ((1, 1, 2),))

    def test_bound_the_other_way_round(self):
        # Just one of both is beyond its first place.
        swap = Plan((1, 1), (((0, "to", 0), (1, "to", 0)), ((0, "from", 1), (1, "from", 1))))
        self.assertEqual(bundle(swap, 0, 0), ((0, 0, 1), (1, 1, 0)))
        self.assertEqual(bundle(swap, 1, 0), ((0, 1, 0), (1, 0, 1)))
        long = Plan((5, 7), (((0, "to", 2), (1, "to", 3)), ((0, "from", 4), (1, "from", 6))))
        for place in (2, 3):
            self.assertEqual(bundle(long, 0, place), ((0, 2, 4), (1, 6, 3)))
        for place in (3, 4, 5):
            self.assertEqual(bundle(long, 1, place), ((0, 4, 2), (1, 3, 6)))

    def test_each_step_of_small_plans_against_all_good_standings(self):
        sizes = {"none": 0, "one": 0, "more": 0, "back": 0}
        for plan in [*small_ones(250, 301), *doubled_plans(150, 302)]:
            for thing, place in steps_of(plan):
                told = bundle(plan, thing, place)
                self.assertEqual(told, plain_bundle(plan, thing, place), (plan.tops, plan.rules, thing, place))
                sizes["none" if not told else "one" if len(steps_in(told)) == 1 else "more"] += 1
                sizes["back"] += any(here > there for number, here, there in told)
        self.assertGreater(min(sizes.values()), 200, sizes)

    def test_empty_where_a_part_is_empty(self):
        empty = 0
        for plan in [*small_ones(100, 303), *doubled_plans(100, 304)]:
            good = good_ones(plan)
            for thing, place in steps_of(plan):
                parted = len({s[thing] > place for s in good}) == 2
                self.assertEqual(bundle(plan, thing, place) == (), not parted)
                empty += not parted
        self.assertGreater(empty, 200)

    def test_empty_everywhere_where_no_standing_is_good(self):
        torn = Plan((2, 3), (((0, "to", 0), (0, "to", 0)), ((0, "from", 1), (0, "from", 1))))
        self.assertEqual([bundle(torn, *step) for step in steps_of(torn)], [()] * 5)
        found = 0
        for plan in doubled_plans(200, 305):
            if not good_ones(plan):
                found += 1
                self.assertEqual({bundle(plan, *step) for step in steps_of(plan)} | {()}, {()})
        self.assertGreater(found, 20)

    def test_the_same_of_each_step_of_it_or_all_turned_about(self):
        for plan in small_ones(150, 306):
            for thing, place in steps_of(plan):
                told = bundle(plan, thing, place)
                ways = bound_steps(plan, (thing, place)) if told else {}
                for step in steps_in(told):
                    self.assertEqual(bundle(plan, *step), told if ways[step] else turned(told))

    def test_rising_and_each_as_it_is_gone(self):
        for plan in small_ones(150, 307):
            for thing, place in steps_of(plan):
                told = bundle(plan, thing, place)
                self.assertEqual(list(told), sorted(told))
                self.assertEqual(len({move[0] for move in told}), len(told))
                own = [move for move in told if move[0] == thing]
                self.assertTrue(told == () or own[0][1] <= place < own[0][2])


class Great(unittest.TestCase):
    def test_stretched_plans(self):
        dice = random.Random(311)
        for plan in small_ones(80, 311):
            wide = stretched(plan, GREAT)
            for thing, place in steps_of(plan):
                expected = tuple(stretched_move(move, GREAT) for move in plain_bundle(plan, thing, place))
                self.assertEqual(bundle(wide, thing, place * GREAT + GREAT - 1), expected)
            good = good_ones(plan)
            for thing, top in enumerate(plan.tops):
                # A step within a row of places is a bundle by itself, if anyone is ever there.
                place = dice.randrange(top + 1)
                if any(s[thing] == place for s in good):
                    inner = place * GREAT + dice.randrange(GREAT - 1)
                    self.assertEqual(bundle(wide, thing, inner), ((thing, inner, inner + 1),))

    def test_a_ring_of_twelve_that_must_pass_their_gaps_at_once(self):
        dice = random.Random(312)
        for k in range(6):
            tops = tuple(dice.randrange(10 ** 29, 10 ** 30) for t in range(12))
            lines = [[dice.randrange(1, top // 2), dice.randrange(top // 2, top)] for top in tops]
            lines = [line[::-1] if k % 2 == 1 and thing % 3 == 1 else line for thing, line in enumerate(lines)]
            things = dice.sample(range(12), 12)
            ends = [[lines[thing][end] for thing in things] for end in (0, 1)]
            plan = Plan(tops, tuple(ring_rules(tops, things, *ends)))
            all_on = tuple((thing, here, there) for thing, (here, there) in enumerate(lines))
            for thing, here, there in all_on:
                low, high = min(here, there), max(here, there)
                for place in (low, high - 1, dice.randrange(low, high)):
                    self.assertEqual(bundle(plan, thing, place), all_on if there > here else turned(all_on))
                for place in (low - 1, high):
                    self.assertEqual(bundle(plan, thing, place), ((thing, place, place + 1),))

    def test_forty_rules_of_rings(self):
        tops = (THIRTY,) * 12
        rules = []
        for k in range(10):
            at = k * 10 ** 28
            for half in (0, 1):
                things = [t for t in range(12) if t % 5 == k % 5 and (t + k) % 2 == half]
                rules += ring_rules(tops, things, [at + 7] * len(things), [at + 10 ** 27] * len(things))
        plan = Plan(tops, tuple(rules[:40]))
        for thing, word, place in [side for rule in rules[:20] for side in rule]:
            low = place if word == "to" else place - 1
            told = bundle(plan, thing, low)
            for number, here, there in told:
                self.assertEqual(bundle(plan, number, here), told)
                self.assertEqual(bundle(plan, number, there - 1), told)
            self.assertIn(thing, [move[0] for move in told])

    def test_plans_of_any_great_rules(self):
        parted = 0
        for plan in [*great_plans(4, 313), *[plan for plan, one, other in great_pairs(6, 314)]]:
            for side in itertools.chain.from_iterable(plan.rules[:12]):
                thing, word, place = side
                low = place if word == "to" else place - 1
                if 0 <= low < plan.tops[thing]:
                    told = bundle(plan, thing, low)
                    parted += told != ()
                    for number, here, there in told:
                        again = bundle(plan, number, min(here, there))
                        self.assertEqual(again, told if there > here else turned(told))
        self.assertGreater(parted, 50)

    def test_lines_that_wait_for_one_another_bind_nothing(self):
        for plan in (row_plan(), mirrored(row_plan()), turns_plan(), mirrored(turns_plan())):
            for thing, place in ((0, 0), (1, 0), (0, 3), (1, THIRTY - 1)):
                self.assertEqual(bundle(plan, thing, place), ((thing, place, place + 1),))

    def test_crowded_plans(self):
        for plan in crowded_plans(6, 315):
            for thing, place in steps_of(plan):
                self.assertEqual(bundle(plan, thing, place), plain_bundle(plan, thing, place))


class Ways(unittest.TestCase):
    """What [2] says of it."""

    def test_by_names(self):
        self.assertEqual(bundle(place=0, thing=1, plan=TIED), ((0, 0, 1), (1, 0, 1)))

    def test_kinds_and_asked_again(self):
        for plan in small_ones(50, 321):
            tops, rules = plan.tops, plan.rules
            for step in steps_of(plan):
                told = bundle(plan, *step)
                self.assertTrue(is_plain(told))
                self.assertEqual([bundle(p, *step) for p in (plan, Plan(tops, rules))], [told] * 2)
            self.assertEqual((plan.tops, plan.rules), (tops, rules))


if __name__ == "__main__":
    unittest.main()
