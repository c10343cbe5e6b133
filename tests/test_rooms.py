"""Promise [15], and the last sentence of [3] (c): rooms, their bounds, and the ways to the edge of a side."""

import random
import unittest

from notbothout.bounds import shows_none
from notbothout.going import way
from notbothout.knots import shows_knot
from notbothout.middles import far
from notbothout.nearest import nearest
from notbothout.needs import needs
from notbothout.plans import Plan
from notbothout.rooms import edge, room, same_room
from notbothout.standings import is_good, is_in
from notbothout.ways import steps, walked
from tests.plain import good_ones, is_plain, plainly_in, plainly_shows, sides_of, small_plans, stretched
from tests.plain import stretched_rows, stretched_side
from tests.walks import (
    THIRTY, drawn_pairs, good_set, great_pairs, mirrored, plain_needs, plain_steps, plainly_ring, reach, rooms_of,
    row_plan, turns_plan,
)

GREAT = 10 ** 29
# Thing 0 is never at 2 or 3; where it is at 4 or beyond, thing 1 is at 1 or nearer.
GAP = Plan((6, 3), (((0, "to", 1), (0, "from", 4)), ((0, "to", 3), (1, "to", 1))))


def rows_of(standings):
    return tuple((min(places), max(places)) for places in zip(*standings))


def small_ones(many, seed):
    """Small plans that have a good standing."""
    for plan, one, other in drawn_pairs(many, seed):
        yield plan
    for plan in small_plans(many, seed):
        if good_ones(plan):
            yield plan


class Room(unittest.TestCase):
    def test_as_written(self):
        self.assertEqual(room(GAP, (0, 0)), ((0, 1), (0, 3)))
        self.assertEqual(room(GAP, (1, 3)), ((0, 1), (0, 3)))
        self.assertEqual(room(GAP, (5, 0)), ((4, 6), (0, 1)))
        self.assertEqual(room(Plan((0, 4)), (0, 2)), ((0, 0), (0, 4)))

    def test_against_all_steps_from_each_standing_of_small_plans(self):
        several = 0
        for plan in small_ones(200, 191):
            good = good_set(plan)
            rooms = rooms_of(good)
            several += len(rooms) > 1
            for members in rooms:
                rows = rows_of(members)
                for standing in members[:20]:
                    self.assertEqual(room(plan, standing), rows, (plan.tops, plan.rules, standing))
        self.assertGreater(several, 50)

    def test_all_good_standings_within_its_bounds_are_of_it_and_no_other_one(self):
        for plan in small_ones(150, 192):
            good = good_set(plan)
            for members in rooms_of(good):
                rows = room(plan, members[0])
                within = [s for s in good if all(low <= place <= high for place, (low, high) in zip(s, rows))]
                self.assertEqual(sorted(within), members)

    def test_at_great_places(self):
        dice = random.Random(193)
        for plan in small_ones(60, 193):
            members = dice.choice(rooms_of(good_set(plan)))
            standing = tuple(place * GREAT + dice.randrange(GREAT) for place in dice.choice(members))
            self.assertEqual(room(stretched(plan, GREAT), standing), stretched_rows(rows_of(members), GREAT))

    def test_great_plans_from_one_end_of_the_room_to_the_other(self):
        shut = 0
        for plan, one, other in great_pairs(6, 194):
            rows = room(plan, one)
            for thing, (low, high) in enumerate(rows):
                for side, beyond in [((thing, "to", low), (thing, "to", low - 1)),
                                     ((thing, "from", high), (thing, "from", high + 1))]:
                    word, told = edge(plan, one, side)
                    self.assertEqual(word, "way")
                    end = walked(plan, one, told)
                    self.assertEqual(end[thing], side[2])
                    self.assertIs(same_room(plan, one, end), True)
                    self.assertEqual(room(plan, end), rows)
                    if 0 <= beyond[2] <= plan.tops[thing]:
                        shut += 1
                        self.assertIn(edge(plan, one, beyond)[0], ("knot", "none"))
        self.assertGreater(shut, 5)

    def test_long_rows_and_turns(self):
        for plan in (row_plan(), mirrored(row_plan()), turns_plan(), mirrored(turns_plan())):
            for standing in ((0,) * len(plan), (THIRTY,) * len(plan)):
                self.assertEqual(room(plan, standing), ((0, THIRTY),) * len(plan))


class SameRoom(unittest.TestCase):
    def test_as_written(self):
        self.assertIs(same_room(GAP, (0, 0), (1, 3)), True)
        self.assertIs(same_room(GAP, (0, 0), (4, 0)), False)
        self.assertIs(same_room(GAP, (4, 0), (0, 0)), False)
        self.assertIs(same_room(GAP, (4, 0), (4, 0)), True)

    def test_each_two_good_standings_of_small_plans(self):
        told = {True: 0, False: 0}
        for plan in small_ones(40, 195):
            good = good_set(plan)
            for one in sorted(good)[:15]:
                found = reach(good, one)
                for other in good:
                    told[other in found] += 1
                    self.assertIs(same_room(plan, one, other), other in found)
        self.assertGreater(min(told.values()), 150, told)

    def test_great_plans(self):
        told = {True: 0, False: 0}
        for plan, one, other in great_pairs(20, 196):
            expected = way(plan, one, other)[0] == "way"
            told[expected] += 1
            self.assertIs(same_room(plan, one, other), expected)
            self.assertIs(same_room(plan, other, one), expected)
            self.assertEqual(room(plan, one) == room(plan, other), expected)
        self.assertGreater(min(told.values()), 4, told)


class Edge(unittest.TestCase):
    def test_as_written(self):
        self.assertEqual(edge(GAP, (0, 0), (0, "from", 1)), ("way", ((0, 1),)))
        self.assertEqual(edge(GAP, (0, 0), (0, "from", 2)), ("knot", (4, 0), ((0, 1, 0, 4),)))
        self.assertEqual(edge(GAP, (1, 2), (0, "from", 5))[:2], ("knot", (5, 1)))
        torn = Plan((3,), (((0, "to", 1), (0, "to", 1)),))
        word, paper = edge(torn, (0,), (0, "from", 2))
        self.assertEqual(word, "none")
        self.assertIs(shows_none(torn, ((0, "from", 2),), paper), True)

    def test_a_side_that_is_in_already(self):
        for plan, one, other in drawn_pairs(60, 201):
            for side in sides_of(plan.tops):
                if plainly_in(side, one):
                    self.assertEqual(edge(plan, one, side), ("way", ()))

    def test_each_side_of_small_plans(self):
        dice = random.Random(202)
        told = {"way": 0, "knot": 0, "none": 0}
        for plan in small_ones(120, 202):
            good = good_set(plan)
            for k in range(2):
                standing = dice.choice(sorted(good))
                for side in sides_of(plan.tops):
                    told[self.check(plan, standing, side, good)] += 1
        self.assertGreater(min(told.values()), 100, told)

    def check(self, plan, standing, side, good):
        found = reach(good, standing)
        having = [s for s in good if plainly_in(side, s)]
        inside = [s for s in having if s in found]
        answer = edge(plan, standing, side)
        if inside:
            self.assertEqual((answer[0], len(answer)), ("way", 2))
            row = plain_steps(standing, answer[1])
            self.assertLessEqual(set(row), good)
            # The nearest one is the only one that is so near.
            least = min(far(standing, s) for s in inside)
            self.assertEqual([s for s in inside if far(standing, s) == least], [row[-1]])
            self.assertEqual(len(row) - 1, least)
            self.assertLessEqual(len(answer[1]), len(plan) + len(plain_needs(plan, standing, row[-1])))
        elif having:
            self.assertEqual((answer[0], len(answer)), ("knot", 3))
            word, near, ring = answer
            least = min(far(standing, s) for s in having)
            self.assertEqual([s for s in having if far(standing, s) == least], [near])
            self.assertTrue(plainly_ring(standing, near, plain_needs(plan, standing, near), ring))
            self.assertIs(shows_knot(plan, standing, near, ring), True)
        else:
            self.assertEqual((answer[0], len(answer)), ("none", 2))
            self.assertTrue(plainly_shows(plan, (side,), answer[1]))
        return answer[0]

    def test_at_great_places(self):
        dice = random.Random(203)
        told = {"way": 0, "knot": 0, "none": 0}
        for plan in small_ones(50, 203):
            standing = dice.choice(sorted(good_set(plan)))
            great, wide = stretched(plan, GREAT), tuple(place * GREAT for place in standing)
            for side in sides_of(plan.tops):
                answer = edge(great, wide, stretched_side(side, GREAT))
                told[answer[0]] += 1
                self.assertEqual(answer[0], edge(plan, standing, side)[0])
                self.check_great(great, wide, stretched_side(side, GREAT), answer)
        self.assertGreater(min(told.values()), 30, told)

    def check_great(self, plan, standing, side, answer):
        if answer[0] == "none":
            self.assertIs(shows_none(plan, (side,), answer[1]), True)
            return
        near = nearest(plan, standing, (side,))
        if answer[0] == "way":
            self.assertEqual(walked(plan, standing, answer[1]), near)
            self.assertEqual(steps(standing, answer[1]), far(standing, near))
            self.assertLessEqual(len(answer[1]), len(plan) + len(needs(plan, standing, near)))
        else:
            self.assertEqual(answer[1], near)
            self.assertTrue(is_good(plan, near) and is_in(side, near))
            self.assertIs(shows_knot(plan, standing, near, answer[2]), True)

    def test_great_plans(self):
        dice = random.Random(204)
        told = {"way": 0, "knot": 0}
        for plan, one, other in great_pairs(20, 204):
            for thing in range(12):
                side = (thing, "from" if other[thing] > one[thing] else "to", other[thing])
                answer = edge(plan, one, side)
                told[answer[0]] += 1
                self.check_great(plan, one, side, answer)
        self.assertGreater(min(told.values()), 30, told)
        for plan in (row_plan(), mirrored(row_plan())):
            for standing, word, place in (((0,) * 12, "from", THIRTY), ((THIRTY,) * 12, "to", 0)):
                side = (dice.choice((0, 5, 11)), word, place)
                self.check_great(plan, standing, side, edge(plan, standing, side))


class Ways(unittest.TestCase):
    """What [2] says of all of them."""

    def test_by_names(self):
        self.assertEqual(room(standing=(5, 0), plan=GAP), ((4, 6), (0, 1)))
        self.assertIs(same_room(other=(1, 3), one=(0, 0), plan=GAP), True)
        self.assertEqual(edge(side=(0, "from", 1), standing=(0, 0), plan=GAP), ("way", ((0, 1),)))

    def test_kinds_and_asked_again(self):
        for plan, one, other in drawn_pairs(60, 211):
            tops, rules = plan.tops, plan.rules
            told = [(room(p, one), same_room(p, one, other), [edge(p, one, side) for side in sides_of(tops)])
                    for p in (plan, plan, Plan(tops, rules))]
            self.assertTrue(is_plain((told[0][0], told[0][1], tuple(told[0][2]))))
            self.assertIs(type(told[0][1]), bool)
            self.assertEqual(told[:1] * 3, told)
            self.assertEqual((plan.tops, plan.rules), (tops, rules))


if __name__ == "__main__":
    unittest.main()
