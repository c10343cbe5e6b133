"""Promise [6], and the first sentence of [3] (a): far, middle, between."""

import itertools
import random
import unittest

from notbothout.middles import far, is_between, middle
from notbothout.plans import Plan
from notbothout.standings import is_good
from tests.plain import good_ones, small_plans, standings_of

THIRTY = 10 ** 30 - 1


class Middles(unittest.TestCase):
    def test_far(self):
        self.assertEqual(far((1, 5), (4, 2)), 6)
        self.assertEqual(far((4, 2), (1, 5)), 6)
        self.assertEqual(far((0,), (0,)), 0)
        self.assertEqual(far((3, 3, 3), (3, 3, 3)), 0)
        self.assertEqual(far((0, 1, 2), (2, 1, 0)), 4)
        self.assertEqual(far((THIRTY,) * 12, (0,) * 12), 12 * THIRTY)
        self.assertEqual(far((THIRTY, 0), (THIRTY - 1, THIRTY)), THIRTY + 1)

    def test_middle_in_every_order(self):
        for three in itertools.permutations([(0, 5, 3, 7), (2, 1, 3, 7), (9, 4, 8, 0)]):
            self.assertEqual(middle(*three), (2, 4, 3, 7))
        for three in itertools.permutations([(THIRTY, 0), (THIRTY - 1, THIRTY), (0, 1)]):
            self.assertEqual(middle(*three), (THIRTY - 1, 1))

    def test_middle_of_alike_ones(self):
        self.assertEqual(middle((1, 2), (1, 2), (1, 2)), (1, 2))
        for three in itertools.permutations([(1, 9), (1, 9), (7, 0)]):
            self.assertEqual(middle(*three), (1, 9))
        self.assertEqual(middle((0,), (0,), (5,)), (0,))

    def test_between_at_the_edges(self):
        told = [is_between((2, 5), (x, 5), (4, 5)) for x in range(1, 6)]
        self.assertEqual(told, [False, True, True, True, False])
        told = [is_between((4, 5), (x, 5), (2, 5)) for x in range(1, 6)]
        self.assertEqual(told, [False, True, True, True, False])
        told = [is_between((4, 5), (4, x), (4, 5)) for x in (4, 5, 6)]
        self.assertEqual(told, [False, True, False])

    def test_between_asks_each_place(self):
        self.assertIs(is_between((0, 9), (3, 3), (5, 0)), True)
        self.assertIs(is_between((0, 9), (6, 3), (5, 0)), False)
        self.assertIs(is_between((0, 9), (3, 10), (5, 0)), False)
        self.assertIs(is_between((0, 0, 0), (0, 0, 1), (0, 0, 0)), False)
        self.assertIs(is_between((0,), (THIRTY,), (THIRTY,)), True)
        self.assertIs(is_between((0,), (THIRTY,), (THIRTY - 1,)), False)

    def test_against_one_another(self):
        standings = standings_of(Plan((2, 2)))
        for one, x, other in itertools.product(standings, repeat=3):
            between = far(one, x) + far(x, other) == far(one, other)
            self.assertIs(is_between(one, x, other), between)
            self.assertEqual(middle(one, x, other) == x, between)

    def test_the_middle_of_three_good_ones_is_good(self):
        dice = random.Random(6)
        for plan in small_plans(300, 6):
            good = good_ones(plan)
            for k in range(20 if good else 0):
                three = [dice.choice(good) for _ in range(3)]
                self.assertIn(middle(*three), good)
                self.assertIs(is_good(plan, middle(*three)), True)

    def test_by_names_and_kinds(self):
        self.assertEqual(far(other=(1, 2), one=(3, 4)), 4)
        self.assertEqual(middle(three=(1, 2), two=(3, 4), one=(2, 9)), (2, 4))
        self.assertIs(is_between(other=(0, 0), x=(1, 1), one=(2, 2)), True)
        self.assertIs(type(far((1,), (2,))), int)
        self.assertIs(type(far((1,), (1,))), int)
        self.assertIs(type(middle((1,), (2,), (3,))), tuple)


if __name__ == "__main__":
    unittest.main()
