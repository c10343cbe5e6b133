"""Promise [11]: ways that can be walked, those that can't, and how many steps they have."""

import copy
import random
import unittest

from notbothout.errors import NoWay
from notbothout.plans import Plan
from notbothout.ways import steps, walked
from tests.plain import (
    Odd, anything, good_ones, is_plain, nested, nested_list, otherwise, plainly_good, small_plans, stretched,
)
from tests.walks import THIRTY, drawn_pairs, good_set, plain_steps, track

GREAT = 10 ** 29
# Thing 0 may go beyond place 1 only where thing 1 is at 3 or beyond.
PLAN = Plan((4, 5), (((0, "to", 1), (1, "from", 3)),))
# Thing 0 is never at 2 or 3.
GAP = Plan((6, 1), (((0, "to", 1), (0, "from", 4)),))


def plainly_walked(plan, standing, way):
    """("at", number) or ("there", standing), by the words, place by place."""
    if type(way) is not tuple:
        return "at", 0
    here = standing
    for at, row in enumerate(way):
        if type(row) is not tuple or len(row) != 2 or not all(type(part) is int for part in row):
            return "at", at
        thing, place = row
        if not 0 <= thing < len(plan) or not 0 <= place <= plan.tops[thing] or place == here[thing]:
            return "at", at
        for k in track(here[thing], place)[1:]:
            here = here[:thing] + (k,) + here[thing + 1:]
            if not plainly_good(plan, here):
                return "at", at
    return "there", here


def drawn_way(plan, standing, good, dice):
    """A way of some rows, most of which can be walked; the last one may be any."""
    here, way = standing, []
    for k in range(dice.randrange(6)):
        thing = dice.randrange(len(plan))
        place = dice.randrange(plan.tops[thing] + 1)
        there = here[:thing] + (place,) + here[thing + 1:]
        if there in good and there != here or dice.randrange(5) == 0:
            way.append((thing, place))
            here = there
    return tuple(way)


class Checked(unittest.TestCase):
    def refused(self, *told, **named):
        with self.assertRaises(NoWay) as caught:
            walked(*told, **named)
        self.assertIs(type(caught.exception.at), int)
        return caught.exception.at

    def told(self, plan, standing, way):
        try:
            return "there", walked(plan, standing, way)
        except NoWay as refused:
            return "at", refused.at


class Walked(Checked):
    def test_as_written(self):
        self.assertEqual(walked(PLAN, (0, 3), ()), (0, 3))
        self.assertEqual(walked(PLAN, (0, 3), ((0, 4),)), (4, 3))
        self.assertEqual(walked(PLAN, (0, 0), ((1, 5), (0, 4), (1, 3), (0, 0), (1, 0))), (0, 0))
        self.assertEqual(self.refused(PLAN, (0, 0), ((0, 2),)), 0)
        self.assertEqual(self.refused(PLAN, (0, 0), ((1, 5), (0, 4), (1, 2))), 2)

    def test_a_row_that_breaks_a_rule_on_its_way_though_not_at_its_end(self):
        for standing, row in [((0, 0), (0, 4)), ((1, 0), (0, 6)), ((6, 1), (0, 0)), ((4, 1), (0, 1))]:
            self.assertEqual(self.refused(GAP, standing, (row,)), 0)
            self.assertEqual(self.refused(GAP, standing, ((1, 1 - standing[1]), row)), 1)
        self.assertEqual(walked(GAP, (4, 0), ((0, 6), (0, 4), (0, 5))), (5, 0))
        meeting = Plan((6,), (((0, "to", 2), (0, "from", 3)), ((0, "from", 1), (0, "to", 4))))
        self.assertEqual(walked(meeting, (0,), ((0, 6), (0, 0))), (0,))

    def test_a_row_to_where_the_thing_stands(self):
        self.assertEqual(self.refused(PLAN, (0, 0), ((0, 0),)), 0)
        self.assertEqual(self.refused(PLAN, (0, 0), ((0, 1), (0, 1))), 1)
        self.assertEqual(self.refused(PLAN, (0, 0), ((0, 1), (1, 3), (0, 1))), 2)

    def test_against_the_words_on_small_plans(self):
        dice = random.Random(131)
        told = {"at": 0, "there": 0}
        for plan in small_plans(300, 131, most_rules=6):
            good = good_ones(plan)
            for k in range(8 if good else 0):
                standing = dice.choice(good)
                way = drawn_way(plan, standing, set(good), dice)
                expected = plainly_walked(plan, standing, way)
                told[expected[0]] += 1
                self.assertEqual(self.told(plan, standing, way), expected, (plan.rules, standing, way))
        self.assertGreater(min(told.values()), 200, told)

    def test_the_same_with_something_otherwise_at_any_place_and_depth(self):
        dice = random.Random(132)
        for plan, one, other in drawn_pairs(60, 132):
            way = drawn_way(plan, one, good_set(plan), dice)
            for changed in otherwise(way, dice):
                self.assertEqual(self.told(plan, one, changed), plainly_walked(plan, one, changed), changed)

    def test_rows_that_are_none(self):
        for row in [
            (), (0,), (0, 1, 1), (2, 1), (-1, 1), (0, 5), (0, -1), (True, 1), (0, True), (False, 1), ("0", 1),
            (0, "1"), ([0], 1), (0, [1]), [0, 1], "01", None, (None, 1), (0, None), ((0, 1),), (0, (1,)), Odd(),
            (Odd(), 1), (0, Odd()), (0, THIRTY), (THIRTY, 0), (10 ** 60 - 1, 0), (0, 1 - 10 ** 60), *anything(),
        ]:
            self.assertEqual(self.refused(PLAN, (0, 0), (row,)), 0)
            self.assertEqual(self.refused(PLAN, (0, 0), (row, row)), 0)
            self.assertEqual(self.refused(PLAN, (0, 0), ((1, 3), (0, 2), row)), 2)
            self.assertEqual(self.refused(PLAN, (0, 0), ((1, 3), row, (0, 2))), 1)
            self.assertEqual(self.refused(PLAN, (0, 0), ((0, 2), row)), 0)

    def test_of_anything(self):
        for thing in [None, [], [(0, 1)], {}, "", 0, True, Odd(), nested_list((0, 1), 29), *anything()]:
            self.assertEqual(self.refused(PLAN, (0, 0), thing), 0)
        self.assertEqual(self.refused(PLAN, (0, 0), nested((0, 1), 29)), 0)
        self.assertEqual(self.refused(PLAN, (0, 0), ((0, 1), nested((), 29))), 1)

    def test_at_great_places(self):
        dice = random.Random(133)
        told = {"at": 0, "there": 0}
        for plan in small_plans(150, 133, most_rules=6):
            good, great = good_ones(plan), stretched(plan, GREAT)
            for k in range(5 if good else 0):
                standing = dice.choice(good)
                way = drawn_way(plan, standing, set(good), dice)
                within = [dice.randrange(GREAT) for t in plan.tops]
                wide = tuple((thing, place * GREAT + within[thing]) for thing, place in way)
                word, expected = plainly_walked(plan, standing, way)
                told[word] += 1
                start = tuple(place * GREAT + k for place, k in zip(standing, within))
                name, last = self.told(great, start, wide)
                self.assertEqual((name, last if word == "at" else tuple(k // GREAT for k in last)), (word, expected))
        self.assertGreater(min(told.values()), 50, told)

    def test_from_end_to_end_of_long_lines(self):
        plan = Plan((THIRTY,) * 12, tuple(((k, "to", 0), (k + 1, "from", THIRTY)) for k in range(11)))
        way = tuple((k, THIRTY) for k in range(11, -1, -1))
        self.assertEqual(walked(plan, (0,) * 12, way), (THIRTY,) * 12)
        self.assertEqual(walked(plan, (THIRTY,) * 12, tuple((k, 0) for k in range(12))), (0,) * 12)
        self.assertEqual(self.refused(plan, (0,) * 12, way[:-2] + way[-1:] + way[-2:-1]), 10)
        self.assertEqual(self.refused(plan, (0,) * 12, ((11, THIRTY - 1), (10, 1))), 1)
        gap = Plan((THIRTY,), (((0, "to", 7), (0, "from", 9)),))
        self.assertEqual(self.refused(gap, (0,), ((0, THIRTY),)), 0)
        self.assertEqual(self.refused(gap, (0,), ((0, 7), (0, 9))), 1)


class Steps(unittest.TestCase):
    def test_on_and_back(self):
        self.assertEqual(steps((0, 0), ()), 0)
        self.assertEqual(steps((0, 0), ((1, 5), (0, 4), (1, 3), (0, 0), (1, 0))), 5 + 4 + 2 + 4 + 3)
        self.assertEqual(steps((4,), ((0, 0), (0, 4), (0, 3))), 9)

    def test_of_thirty_figures(self):
        self.assertEqual(steps((0, THIRTY), ((0, THIRTY), (1, 0), (0, 1), (1, 1))), 3 * THIRTY)

    def test_against_each_step_of_small_ways(self):
        dice = random.Random(134)
        for plan, one, other in drawn_pairs(200, 134):
            way = drawn_way(plan, one, good_set(plan), dice)
            if plainly_walked(plan, one, way)[0] == "there":
                self.assertEqual(steps(one, way), len(plain_steps(one, way)) - 1)


class Ways(Checked):
    """What [2] says of all of them."""

    def test_by_names(self):
        self.assertEqual(walked(way=((1, 3),), standing=(0, 0), plan=PLAN), (0, 3))
        self.assertEqual(steps(way=((1, 3),), standing=(0, 0)), 3)
        self.assertEqual(self.refused(way=[], standing=(0, 0), plan=PLAN), 0)

    def test_kinds(self):
        self.assertTrue(is_plain(walked(PLAN, (0, 0), ((1, 3),))))
        self.assertIs(type(steps((0, 0), ((1, 3),))), int)

    def test_what_is_handed_in_stays_as_it_was(self):
        handed = [[(0, 1)], ([0, 1],), ((0, 1), [1, [2]]), {"a": [1]}]
        before = copy.deepcopy(handed)
        for way in handed:
            self.refused(PLAN, (0, 0), way)
        self.assertEqual(handed, before)
        standing, way = (0, 0), ((1, 3), (0, 4))
        walked(PLAN, standing, way)
        self.assertEqual((standing, way), ((0, 0), ((1, 3), (0, 4))))


if __name__ == "__main__":
    unittest.main()
