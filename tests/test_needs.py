"""Promise [12]: needs, by which a thing leaves a place no sooner than another one has come to a place."""

import random
import unittest

from notbothout.needs import needs
from notbothout.plans import Plan
from tests.plain import good_ones, is_plain, small_plans, stretched
from tests.walks import THIRTY, drawn_pairs, great_pairs, mirrored, plain_needs, row_plan, turns_plan

GREAT = 10 ** 29


class Needs(unittest.TestCase):
    def test_as_written(self):
        # Thing 0 may go beyond place 1 only where thing 1 is at 3 or beyond.
        plan = Plan((4, 5), (((0, "to", 1), (1, "from", 3)),))
        self.assertEqual(needs(plan, (0, 0), (4, 5)), ((0, 1, 1, 3),))
        self.assertEqual(needs(plan, (4, 5), (0, 0)), ((1, 3, 0, 1),))
        self.assertEqual(needs(plan, (1, 2), (2, 3)), ((0, 1, 1, 3),))
        self.assertEqual(needs(plan, (0, 3), (4, 5)), ())
        self.assertEqual(needs(plan, (0, 0), (1, 5)), ())
        self.assertEqual(needs(plan, (4, 5), (4, 5)), ())

    def test_sides_that_turn_both_ways(self):
        # Both at an end is what must not be: one is left on its way back, the other entered on its way on.
        plan = Plan((4, 4), (((0, "from", 3), (1, "from", 2)),))
        self.assertEqual(needs(plan, (4, 0), (0, 4)), ((0, 3, 1, 2),))
        self.assertEqual(needs(plan, (0, 4), (4, 0)), ((1, 2, 0, 3),))
        plan = Plan((4, 4), (((0, "to", 3), (1, "to", 2)),))
        self.assertEqual(needs(plan, (0, 4), (4, 0)), ((0, 3, 1, 2),))
        self.assertEqual(needs(plan, (4, 0), (0, 4)), ((1, 2, 0, 3),))
        # A rule whose sides turn by one way, whichever side is named first.
        for rule in [((0, "from", 2), (1, "to", 1)), ((1, "to", 1), (0, "from", 2))]:
            plan = Plan((4, 4), (rule,))
            self.assertEqual(needs(plan, (4, 4), (0, 0)), ((0, 2, 1, 1),))
            self.assertEqual(needs(plan, (0, 0), (4, 4)), ((1, 1, 0, 2),))

    def test_of_one_thing_alone(self):
        for low, high in [(a, b) for a in range(7) for b in range(7)]:
            plan = Plan((6,), (((0, "to", low), (0, "from", high)),))
            on = ((0, low, 0, high),) if low < 6 and high > low + 1 else ()
            self.assertEqual(needs(plan, (0,), (6,)), on if high > 0 else (), (low, high))
            back = ((0, high, 0, low),) if high > 0 and high > low + 1 else ()
            self.assertEqual(needs(plan, (6,), (0,)), back if low < 6 else (), (low, high))

    def test_of_one_side_twice(self):
        plan = Plan((6, 6), (((0, "to", 6), (0, "to", 6)), ((1, "from", 0), (1, "from", 0))))
        self.assertEqual(needs(plan, (0, 6), (6, 0)), ())
        plan = Plan((6,), (((0, "from", 2), (0, "from", 2)),))
        self.assertEqual(needs(plan, (2,), (6,)), ())

    def test_rising_and_each_once(self):
        rule = ((0, "to", 1), (1, "from", 3))
        rules = (rule, ((1, "to", 4), (0, "from", 2)), rule, rule[::-1], ((0, "to", 0), (1, "from", 1)), rule)
        plan = Plan((4, 5), rules)
        self.assertEqual(needs(plan, (0, 0), (4, 5)), ((0, 0, 1, 1), (0, 1, 1, 3), (1, 4, 0, 2)))
        self.assertEqual(needs(plan, (4, 5), (0, 0)), ((0, 2, 1, 4), (1, 1, 0, 0), (1, 3, 0, 1)))

    def test_against_walking_each_thing_place_by_place(self):
        told = {"none": 0, "own": 0, "several": 0}
        for plan, one, other in drawn_pairs(800, 141):
            for start, end in ((one, other), (other, one)):
                expected = plain_needs(plan, start, end)
                self.assertEqual(needs(plan, start, end), expected, (plan.rules, start, end))
                told["none"] += expected == ()
                told["own"] += any(i == j for i, stop, j, place in expected)
                told["several"] += len(expected) > 2
        self.assertGreater(min(told.values()), 100, told)

    def test_between_any_good_standings_of_small_plans(self):
        dice = random.Random(142)
        for plan in small_plans(300, 142):
            good = good_ones(plan)
            for k in range(10 if good else 0):
                one, other = dice.choice(good), dice.choice(good)
                self.assertEqual(needs(plan, one, other), plain_needs(plan, one, other))

    def test_turned_about(self):
        for plan, one, other in drawn_pairs(150, 143):
            turned = [tuple(top - place for top, place in zip(plan.tops, end)) for end in (one, other)]
            rows = [(i, plan.tops[i] - stop, j, plan.tops[j] - k) for i, stop, j, k in plain_needs(plan, one, other)]
            self.assertEqual(needs(mirrored(plan), *turned), tuple(sorted(rows)))

    def test_at_great_places(self):
        for plan, one, other in drawn_pairs(150, 144):
            rows = []
            for i, stop, j, place in plain_needs(plan, one, other):
                # The last place of a row of places is its last one on the way on, its first one on the way back.
                last = stop * GREAT + (GREAT - 1 if other[i] > one[i] else 0)
                rows.append((i, last, j, place * GREAT + (0 if other[j] > one[j] else GREAT - 1)))
            ends = [tuple(place * GREAT for place in end) for end in (one, other)]
            self.assertEqual(needs(stretched(plan, GREAT), *ends), tuple(sorted(rows)))

    def test_great_plans(self):
        told = needs(row_plan(), (0,) * 12, (THIRTY,) * 12)
        self.assertEqual(told, tuple((k, 0, k + 1, THIRTY) for k in range(11)))
        told = needs(row_plan(), (THIRTY,) * 12, (0,) * 12)
        self.assertEqual(told, tuple((k + 1, THIRTY, k, 0) for k in range(11)))
        told = needs(turns_plan(), (0, 0), (THIRTY, THIRTY))
        turns = [(1, k, 0, k + 1) for k in range(20)] + [(0, k + 1, 1, k + 1) for k in range(20)]
        self.assertEqual(told, tuple(sorted(turns)))
        for plan, one, other in great_pairs(6, 145):
            told = needs(plan, one, other)
            rows = {(a[0], a[2], b[0], b[2]) for rule in plan.rules for a, b in (rule, rule[::-1])}
            self.assertEqual(len(told), 40)
            self.assertTrue(set(told) <= rows)
            self.assertEqual(needs(plan, other, one), tuple(sorted((j, place, i, stop) for i, stop, j, place in told)))


class Ways(unittest.TestCase):
    """What [2] says of them."""

    def test_by_names(self):
        plan = Plan((4, 5), (((0, "to", 1), (1, "from", 3)),))
        self.assertEqual(needs(other=(4, 5), one=(0, 0), plan=plan), ((0, 1, 1, 3),))

    def test_kinds_and_asked_again(self):
        for plan, one, other in drawn_pairs(60, 146):
            tops, rules = plan.tops, plan.rules
            self.assertTrue(is_plain(needs(plan, one, other)))
            self.assertEqual(needs(plan, one, other), needs(Plan(tops, rules), one, other))
            self.assertEqual((plan.tops, plan.rules), (tops, rules))


if __name__ == "__main__":
    unittest.main()
