"""Promise [8]: wants, who has them, and what follows of them."""

import copy
import random
import unittest

from notbothout.plans import Plan
from notbothout.wants import follows, has, is_want
from tests.plain import (
    anything, crowded_plans, good_ones, plainly_follows, plainly_has, sides_of, small_plans, small_want,
    standings_of, stretched, stretched_rows, stretched_side,
)

THIRTY = 10 ** 30 - 1
GREAT = 10 ** 29
PLAN = Plan((4, 5, 2), (((0, "to", 1), (1, "from", 3)), ((1, "to", 2), (2, "to", 0))))
SIDE = (0, "from", 1)


class Wants(unittest.TestCase):
    def test_of_none_24_and_25_sides(self):
        self.assertIs(is_want(PLAN, ()), True)
        self.assertIs(is_want(PLAN, (SIDE,)), True)
        self.assertIs(is_want(PLAN, (SIDE,) * 24), True)
        self.assertIs(is_want(PLAN, (SIDE,) * 25), False)
        self.assertIs(is_want(PLAN, tuple(sides_of(PLAN.tops))[:24]), True)

    def test_sides_that_contradict_one_another_are_a_want(self):
        self.assertIs(is_want(PLAN, ((0, "from", 4), (0, "to", 0))), True)

    def test_of_anything(self):
        for thing in [[], [SIDE], SIDE, ([0, "from", 1],), None, *anything()]:
            self.assertIs(is_want(PLAN, thing), False)
        for bad in [(0, "from", 5), (3, "to", 0), (0, "to", True), (0, "to"), (0, "TO", 0), *anything()]:
            self.assertIs(is_want(PLAN, (bad,)), False)
            self.assertIs(is_want(PLAN, (SIDE, bad)), False)
            self.assertIs(is_want(PLAN, (bad, SIDE)), False)

    def test_has_of_standings_good_or_not(self):
        want = ((0, "from", 2), (1, "to", 1))
        self.assertIs(has(want, (2, 1, 0)), True)
        self.assertIs(has(want, (4, 0, 2)), True)
        self.assertIs(has(want, (1, 1, 0)), False)
        self.assertIs(has(want, (2, 2, 0)), False)
        self.assertIs(has((), (0, 0, 0)), True)
        self.assertIs(has(((0, "from", THIRTY),), (THIRTY,)), True)
        self.assertIs(has(((0, "from", THIRTY),), (THIRTY - 1,)), False)

    def test_has_against_the_words(self):
        dice = random.Random(81)
        for plan in small_plans(100, 81):
            want = small_want(plan, dice)
            for standing in standings_of(plan):
                self.assertIs(has(want, standing), plainly_has(want, standing))


class Follows(unittest.TestCase):
    def test_as_written(self):
        self.assertEqual(follows(PLAN, ()), ((0, 4), (0, 5), (0, 2)))
        self.assertEqual(follows(PLAN, ((0, "from", 2),)), ((2, 4), (3, 5), (0, 0)))
        self.assertEqual(follows(PLAN, ((0, "from", 1),)), ((1, 4), (0, 5), (0, 2)))
        self.assertEqual(follows(PLAN, ((2, "from", 1),)), ((0, 1), (0, 2), (1, 2)))
        self.assertEqual(follows(PLAN, ((0, "from", 1), (0, "from", 3), (0, "to", 3))), ((3, 3), (3, 5), (0, 0)))

    def test_low_above_high_where_none_has_the_want(self):
        self.assertEqual(follows(PLAN, ((1, "from", 4), (1, "to", 2))), ((0, 1), (4, 2), (0, 0)))
        self.assertEqual(follows(PLAN, ((0, "from", 2), (2, "from", 1))), ((2, 1), (3, 2), (1, 0)))

    def test_what_holds_everywhere_but_does_not_follow(self):
        plan = Plan((4,), (((0, "from", 2), (0, "from", 2)),))
        self.assertEqual(follows(plan, ()), ((0, 4),))
        self.assertEqual(follows(plan, ((0, "to", 3),)), ((0, 3),))
        self.assertEqual(follows(plan, ((0, "to", 1),)), ((2, 1),))

    def test_against_a_search_over_all_sides(self):
        dice = random.Random(82)
        without = 0
        for plan in small_plans(250, 82):
            for k in range(3):
                want = small_want(plan, dice)
                without += good_ones(plan, want) == []
                self.assertEqual(follows(plan, want), plainly_follows(plan, want), (plan.tops, plan.rules, want))
        self.assertGreater(without, 50)

    def test_at_great_places(self):
        dice = random.Random(83)
        for plan in small_plans(100, 83):
            want = small_want(plan, dice)
            told = follows(stretched(plan, GREAT), tuple(stretched_side(side, GREAT) for side in want))
            self.assertEqual(told, stretched_rows(plainly_follows(plan, want), GREAT))

    def test_twelve_things_forty_rules_and_thirty_figures(self):
        dice = random.Random(84)
        for plan in crowded_plans(10, 84):
            want = tuple(dice.choice(sides_of(plan.tops)) for k in range(24))
            for asked in (want[:1], want[:2], want):
                great = tuple(stretched_side(side, GREAT) for side in asked)
                expected = plainly_follows(plan, asked)
                self.assertEqual(follows(plan, asked), expected)
                self.assertEqual(follows(stretched(plan, GREAT), great), stretched_rows(expected, GREAT))

    def test_a_long_chain_of_great_numbers(self):
        rules = []
        for k in range(11):
            rules.append(((k, "to", THIRTY - 2 * k - 1), (k + 1, "from", THIRTY - 2 * k - 2)))
            rules.append(((k + 1, "to", THIRTY - 2 * k - 3), (k + 1, "from", THIRTY - 2 * k - 2)))
            rules.append(((k, "from", k + 1), (k + 1, "to", k)))
        rules += [rules[0]] * 7
        plan = Plan((THIRTY,) * 12, tuple(rules))
        lows = [(THIRTY - 2 * k, THIRTY) for k in range(12)]
        self.assertEqual(follows(plan, ((0, "from", THIRTY),)), tuple(lows))
        self.assertEqual(follows(plan, ((0, "from", THIRTY - 1),))[1], (0, THIRTY))
        self.assertEqual(follows(plan, ((0, "to", 0),)), ((0, 0),) * 2 + tuple((0, k) for k in range(1, 11)))


class Ways(unittest.TestCase):
    """What [2] says of all of them."""

    def test_by_names(self):
        self.assertIs(is_want(thing=(), plan=PLAN), True)
        self.assertIs(has(standing=(1, 0, 0), want=(SIDE,)), True)
        self.assertEqual(follows(want=((0, "from", 2),), plan=PLAN), ((2, 4), (3, 5), (0, 0)))

    def test_kinds(self):
        told = follows(PLAN, (SIDE,))
        self.assertIs(type(told), tuple)
        self.assertEqual({type(row) for row in told}, {tuple})
        self.assertEqual({type(place) for row in told for place in row}, {int})

    def test_what_is_handed_in_stays_as_it_was(self):
        handed = [[SIDE], ([0, "from", 1],), {"a": [1]}]
        before = copy.deepcopy(handed)
        for thing in handed:
            is_want(PLAN, thing)
        self.assertEqual(handed, before)
        rules = PLAN.rules
        self.assertEqual(follows(PLAN, (SIDE,)), follows(PLAN, (SIDE,)))
        self.assertEqual(PLAN.rules, rules)


if __name__ == "__main__":
    unittest.main()
