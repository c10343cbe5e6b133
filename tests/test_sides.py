"""Promise [7]: other sides, what leads, and chains."""

import copy
import itertools
import random
import unittest

from notbothout.plans import Plan
from notbothout.sides import is_chain, leads, other_side
from tests.plain import (
    anything, nested, places_in, plainly_chain, plainly_leads, sides_of, small_plans, stretched, stretched_side,
)

THIRTY = 10 ** 30 - 1
GREAT = 10 ** 29
# Thing 0 beyond 1 asks for thing 1 from 3; thing 1 from 3 asks for thing 2 to 0.
PLAN = Plan((4, 5, 2), (((0, "to", 1), (1, "from", 3)), ((1, "to", 2), (2, "to", 0))))


class OtherSide(unittest.TestCase):
    def test_each_side_of_small_plans(self):
        for tops in ((0,), (1,), (3,), (0, 2), (2, 0, 1)):
            plan = Plan(tops)
            for side in sides_of(tops):
                other = other_side(plan, side)
                rest = set(range(tops[side[0]] + 1)) - places_in(plan, side)
                if other is None:
                    self.assertEqual(rest, set())
                else:
                    self.assertIn(other, sides_of(tops))
                    self.assertEqual((other[0], places_in(plan, other)), (side[0], rest))
                    self.assertEqual(other_side(plan, other), side)

    def test_as_written(self):
        plan = Plan((3, THIRTY))
        self.assertEqual(other_side(plan, (0, "from", 2)), (0, "to", 1))
        self.assertEqual(other_side(plan, (0, "to", 2)), (0, "from", 3))
        self.assertEqual(other_side(plan, (1, "from", THIRTY)), (1, "to", THIRTY - 1))
        self.assertEqual(other_side(plan, (1, "to", 0)), (1, "from", 1))

    def test_none_of_one_that_is_in_everywhere(self):
        plan = Plan((3, 0, THIRTY))
        for side in [(0, "from", 0), (0, "to", 3), (1, "from", 0), (1, "to", 0), (2, "from", 0), (2, "to", THIRTY)]:
            self.assertIsNone(other_side(plan, side))


class Leads(unittest.TestCase):
    def test_by_every_pair_of_sides_of_small_plans(self):
        for plan in small_plans(150, 7):
            for one, other in itertools.product(sides_of(plan.tops), repeat=2):
                self.assertIs(leads(plan, one, other), plainly_leads(plan, one, other), (plan.rules, one, other))

    def test_at_great_places(self):
        for plan in small_plans(40, 71):
            great = stretched(plan, GREAT)
            for one, other in itertools.product(sides_of(plan.tops), repeat=2):
                told = leads(great, stretched_side(one, GREAT), stretched_side(other, GREAT))
                self.assertIs(told, plainly_leads(plan, one, other))

    def test_to_itself_and_to_weaker_ones_of_its_thing(self):
        for side in sides_of(PLAN.tops):
            self.assertIs(leads(PLAN, side, side), True)
        self.assertIs(leads(PLAN, (1, "from", 4), (1, "from", 3)), True)
        self.assertIs(leads(PLAN, (1, "from", 3), (1, "from", 4)), False)
        self.assertIs(leads(PLAN, (1, "to", 3), (1, "to", 4)), True)
        self.assertIs(leads(PLAN, (1, "to", 4), (1, "to", 3)), False)
        self.assertIs(leads(PLAN, (1, "from", 4), (0, "from", 3)), False)

    def test_to_what_is_in_everywhere(self):
        self.assertIs(leads(PLAN, (1, "from", 4), (1, "to", 5)), True)
        self.assertIs(leads(PLAN, (1, "from", 4), (1, "to", 4)), False)
        self.assertIs(leads(PLAN, (1, "to", 4), (1, "from", 0)), True)
        self.assertIs(leads(PLAN, (1, "to", 4), (1, "from", 1)), False)
        self.assertIs(leads(PLAN, (1, "to", 4), (2, "from", 0)), False)

    def test_by_a_rule_to_just_its_other_side(self):
        self.assertIs(leads(PLAN, (0, "from", 2), (1, "from", 3)), True)
        self.assertIs(leads(PLAN, (0, "from", 4), (1, "from", 3)), True)
        self.assertIs(leads(PLAN, (0, "from", 1), (1, "from", 3)), False)
        self.assertIs(leads(PLAN, (0, "from", 2), (1, "from", 2)), False)
        self.assertIs(leads(PLAN, (0, "from", 2), (1, "from", 4)), False)
        self.assertIs(leads(PLAN, (1, "to", 2), (0, "to", 1)), True)
        self.assertIs(leads(PLAN, (1, "to", 3), (0, "to", 1)), False)
        self.assertIs(leads(PLAN, (0, "from", 2), (2, "to", 0)), False)

    def test_by_a_rule_of_one_side_twice(self):
        plan = Plan((4, 2), (((0, "from", 2), (0, "from", 2)),))
        self.assertIs(leads(plan, (0, "to", 1), (0, "from", 2)), True)
        self.assertIs(leads(plan, (0, "to", 0), (0, "from", 2)), True)
        self.assertIs(leads(plan, (0, "to", 2), (0, "from", 2)), False)
        self.assertIs(leads(plan, (1, "to", 0), (0, "from", 2)), False)


class Chains(unittest.TestCase):
    def test_chains(self):
        self.assertIs(is_chain(PLAN, ((0, "from", 0),)), True)
        chain = ((0, "from", 3), (0, "from", 2), (1, "from", 3), (1, "from", 3), (2, "to", 0), (2, "to", 1))
        for end in range(1, len(chain) + 1):
            self.assertIs(is_chain(PLAN, chain[:end]), True, end)
        self.assertIs(is_chain(PLAN, chain[::-1]), False)
        self.assertIs(is_chain(PLAN, chain[:2] + chain[4:]), False)
        self.assertIs(is_chain(PLAN, chain * 40), False)
        self.assertIs(is_chain(PLAN, chain[:1] * 500), True)

    def test_the_same_with_one_side_otherwise(self):
        chain = ((0, "from", 3), (0, "from", 2), (1, "from", 3), (2, "to", 0), (2, "to", 1))
        for at, side in itertools.product(range(len(chain)), sides_of(PLAN.tops)):
            changed = chain[:at] + (side,) + chain[at + 1:]
            self.assertIs(is_chain(PLAN, changed), plainly_chain(PLAN, changed), changed)
        for at, thing in itertools.product(range(len(chain)), anything()):
            self.assertIs(is_chain(PLAN, chain[:at] + (thing,) + chain[at + 1:]), False)

    def test_against_the_words_of_small_plans(self):
        dice = random.Random(8)
        told = {True: 0, False: 0}
        for plan in small_plans(200, 8):
            sides = sides_of(plan.tops)
            for k in range(30):
                row = [dice.choice(sides)]
                while len(row) < dice.randrange(1, 6):
                    led = [side for side in sides if plainly_leads(plan, row[-1], side)]
                    row.append(dice.choice(led if dice.randrange(6) else sides))
                expected = plainly_chain(plan, tuple(row))
                told[expected] += 1
                self.assertIs(is_chain(plan, tuple(row)), expected)
        self.assertTrue(min(told.values()) > 100, told)

    def test_of_anything(self):
        for thing in [(), [], [(0, "from", 0)], ([0, "from", 0],), (0, "from", 0), *anything()]:
            self.assertIs(is_chain(PLAN, thing), False)
        for bad in [
            (0, "from", True), (True, "from", 0), (0, "from", 5), (3, "from", 0), (-1, "from", 0), (0, "from", -1),
            (0, "from"), (0, "From", 0), nested((0, "from", 0), 28),
        ]:
            self.assertIs(is_chain(PLAN, (bad,)), False)
            self.assertIs(is_chain(PLAN, ((0, "from", 0), bad)), False)
            self.assertIs(is_chain(PLAN, (bad, (0, "from", 0))), False)


class Ways(unittest.TestCase):
    """What [2] says of all of them."""

    def test_by_names(self):
        self.assertEqual(other_side(side=(0, "from", 2), plan=PLAN), (0, "to", 1))
        self.assertIs(leads(other=(1, "from", 3), one=(0, "from", 2), plan=PLAN), True)
        self.assertIs(is_chain(thing=((0, "from", 2),), plan=PLAN), True)

    def test_kinds(self):
        self.assertIs(type(other_side(PLAN, (0, "from", 2))), tuple)
        self.assertIs(type(other_side(PLAN, (0, "from", 2))[2]), int)

    def test_what_is_handed_in_stays_as_it_was(self):
        handed = [[(0, "from", 2)], ([0, "from", 2],), {"a": [1]}]
        before = copy.deepcopy(handed)
        for thing in handed:
            is_chain(PLAN, thing)
        self.assertEqual(handed, before)


if __name__ == "__main__":
    unittest.main()
