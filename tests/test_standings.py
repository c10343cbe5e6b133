"""Promise [5]: sides, standings, what is in, broken and good."""

import copy
import unittest

from notbothout.plans import Plan
from notbothout.standings import broken, is_good, is_in, is_side, is_standing
from tests.plain import anything, plainly_good, plainly_in, sides_of, small_plans, standings_of

THIRTY = 10 ** 30 - 1
PLAN = Plan((3, 5))


class Sides(unittest.TestCase):
    def test_sides_at_their_edges(self):
        for side in [(0, "from", 0), (0, "from", 3), (0, "to", 0), (0, "to", 3), (1, "from", 5), (1, "to", 0)]:
            self.assertIs(is_side(PLAN, side), True, side)
        for side in [
            (0, "from", -1), (0, "from", 4), (0, "to", -1), (0, "to", 4), (1, "from", 6), (-1, "from", 0),
            (2, "from", 0), (2, "to", 0), (0, "between", 1), (0, "from"), (0, "from", 1, 1), [0, "from", 1],
            (True, "from", 1), (0, "from", True), (0, "from", False), (False, "to", 1),
        ]:
            self.assertIs(is_side(PLAN, side), False, side)

    def test_all_sides_and_no_others_of_small_numbers(self):
        for tops in ((0,), (2,), (0, 3), (1, 2, 0)):
            told = {
                (t, word, place) for t in range(-2, 5) for word in ("from", "to", "") for place in range(-2, 6)
                if is_side(Plan(tops), (t, word, place))
            }
            self.assertEqual(told, set(sides_of(tops)))

    def test_sides_of_great_places(self):
        plan = Plan((THIRTY,) * 12)
        self.assertIs(is_side(plan, (11, "to", THIRTY)), True)
        self.assertIs(is_side(plan, (11, "to", THIRTY + 1)), False)
        self.assertIs(is_side(plan, (12, "to", THIRTY)), False)

    def test_sides_of_anything(self):
        for thing in anything():
            self.assertIs(is_side(PLAN, thing), False)


class Standings(unittest.TestCase):
    def test_standings_at_their_edges(self):
        for standing in [(0, 0), (3, 5), (0, 5), (3, 0), (1, 2)]:
            self.assertIs(is_standing(PLAN, standing), True, standing)
        for standing in [
            (4, 5), (3, 6), (-1, 0), (0, -1), (5, 3), (), (0,), (0, 0, 0), [0, 0], (True, 0), (0, False), (0, None),
            (0, "0"), ((0,), 0), "00", None, {}, 0, (10 ** 59, 0),
        ]:
            self.assertIs(is_standing(PLAN, standing), False, standing)

    def test_standings_of_one_and_twelve(self):
        self.assertIs(is_standing(Plan((0,)), (0,)), True)
        self.assertIs(is_standing(Plan((0,)), (1,)), False)
        great = Plan((THIRTY,) * 12)
        self.assertIs(is_standing(great, (THIRTY,) * 12), True)
        self.assertIs(is_standing(great, (THIRTY,) * 11 + (THIRTY + 1,)), False)
        self.assertIs(is_standing(great, (0,) * 11), False)
        self.assertIs(is_standing(great, (0,) * 13), False)

    def test_a_standing_may_be_broken(self):
        plan = Plan((1,), (((0, "from", 1), (0, "from", 1)),))
        self.assertIs(is_standing(plan, (0,)), True)
        self.assertIs(is_good(plan, (0,)), False)

    def test_standings_of_anything(self):
        for thing in anything():
            self.assertIs(is_standing(PLAN, thing), False)
        for thing in anything():
            self.assertIs(is_standing(PLAN, (thing, -1)), False)
            self.assertIs(is_standing(PLAN, (thing, thing, thing)), False)


class In(unittest.TestCase):
    def test_at_a_sides_place_one_nearer_and_one_beyond(self):
        told = [is_in((1, "from", 3), (0, place)) for place in (2, 3, 4)]
        self.assertEqual(told, [False, True, True])
        told = [is_in((1, "to", 3), (0, place)) for place in (2, 3, 4)]
        self.assertEqual(told, [True, True, False])

    def test_in_looks_at_its_own_thing(self):
        self.assertIs(is_in((0, "from", 2), (1, 5)), False)
        self.assertIs(is_in((0, "from", 2), (2, 0)), True)
        self.assertIs(is_in((2, "to", 0), (7, 7, 0)), True)

    def test_in_at_great_places(self):
        self.assertIs(is_in((0, "from", THIRTY), (THIRTY,)), True)
        self.assertIs(is_in((0, "from", THIRTY), (THIRTY - 1,)), False)
        self.assertIs(is_in((0, "to", THIRTY - 1), (THIRTY,)), False)


class BrokenAndGood(unittest.TestCase):
    def test_no_rules(self):
        self.assertEqual(broken(PLAN, (0, 0)), ())
        self.assertIs(is_good(PLAN, (3, 5)), True)

    def test_one_side_in_both_none(self):
        plan = Plan((3, 5), (((0, "from", 2), (1, "to", 1)),))
        self.assertEqual(broken(plan, (2, 5)), ())
        self.assertEqual(broken(plan, (0, 1)), ())
        self.assertEqual(broken(plan, (2, 1)), ())
        self.assertEqual(broken(plan, (1, 2)), (0,))
        self.assertEqual([is_good(plan, s) for s in ((2, 5), (0, 1), (2, 1), (1, 2))], [True, True, True, False])

    def test_a_rule_of_one_side_twice(self):
        plan = Plan((3, 5), (((0, "from", 2), (0, "from", 2)),))
        self.assertEqual([broken(plan, (place, 0)) for place in range(4)], [(0,), (0,), (), ()])

    def test_a_rule_of_one_thing_alone(self):
        plan = Plan((3, 5), (((0, "from", 3), (0, "to", 1)),))
        self.assertEqual([broken(plan, (place, 0)) for place in range(4)], [(), (), (0,), ()])

    def test_several_broken_rising(self):
        plan = Plan((3, 5), (
            ((0, "from", 2), (1, "from", 1)), ((0, "to", 0), (1, "to", 0)),
            ((0, "from", 3), (0, "from", 3)), ((1, "from", 5), (1, "from", 1)),
        ))
        self.assertEqual(broken(plan, (0, 0)), (0, 2, 3))
        self.assertEqual(broken(plan, (3, 5)), (1,))
        self.assertEqual(broken(plan, (1, 1)), (1, 2))
        self.assertIs(is_good(plan, (1, 1)), False)

    def test_the_last_of_forty(self):
        kept, other = ((0, "from", 0), (1, "to", 0)), ((0, "from", 3), (1, "from", 5))
        self.assertEqual(broken(Plan((3, 5), (kept,) * 39 + (other,)), (2, 4)), (39,))
        self.assertEqual(broken(Plan((3, 5), (other,) * 40), (2, 4)), tuple(range(40)))

    def test_against_the_words_of_small_plans(self):
        for plan in small_plans(120, 5):
            for standing in standings_of(plan):
                self.assertIs(is_standing(plan, standing), True)
                expected = tuple(
                    number for number, (one, two) in enumerate(plan.rules)
                    if not plainly_in(one, standing) and not plainly_in(two, standing)
                )
                self.assertEqual(broken(plan, standing), expected)
                self.assertIs(is_good(plan, standing), plainly_good(plan, standing))


class Ways(unittest.TestCase):
    """What [2] says of all of them."""

    def test_by_names(self):
        plan = Plan((3, 5), (((0, "from", 2), (1, "to", 1)),))
        self.assertIs(is_side(thing=(0, "from", 1), plan=plan), True)
        self.assertIs(is_standing(thing=(0, 1), plan=plan), True)
        self.assertIs(is_in(standing=(0, 1), side=(1, "to", 1)), True)
        self.assertEqual(broken(standing=(0, 5), plan=plan), (0,))
        self.assertIs(is_good(standing=(0, 5), plan=plan), False)

    def test_kinds(self):
        plan = Plan((3, 5), (((0, "from", 2), (1, "to", 1)),))
        self.assertIs(type(broken(plan, (0, 5))), tuple)
        self.assertIs(type(broken(plan, (0, 5))[0]), int)
        self.assertIs(type(broken(plan, (0, 0))), tuple)

    def test_what_is_handed_in_stays_as_it_was(self):
        plan = Plan((3, 5), (((0, "from", 2), (1, "to", 1)),))
        handed = [[0, "from", [1]], {"a": [1]}, ([1], "from", [2]), ([0], [1])]
        before = copy.deepcopy(handed)
        for thing in handed:
            is_side(plan, thing)
            is_standing(plan, thing)
        broken(plan, (0, 5))
        is_good(plan, (0, 5))
        self.assertEqual(handed, before)
        self.assertEqual((plan.tops, plan.rules), ((3, 5), (((0, "from", 2), (1, "to", 1)),)))


if __name__ == "__main__":
    unittest.main()
