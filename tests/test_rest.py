"""[3] (f) and (g): in every hall all rules are kept, and behind the last wish all comes to rest where it was told."""

import random
import unittest

from notbothout.going import door
from notbothout.halls import Hall
from notbothout.middles import far
from notbothout.plans import Plan
from notbothout.standings import is_good
from tests.bound import ringed_pairs
from tests.plain import good_ones
from tests.plain_hall import do, drawn_deed
from tests.plain_hand import kept_plans
from tests.walks import THIRTY, great_pairs, mirrored, row_plan, turns_plan, waiting_pairs


class Checked(unittest.TestCase):
    def check_kept(self, hall):
        """[3] (f), as it is now."""
        self.assertTrue(is_good(hall.plan(), hall.standing()))
        for number, rule in hall.numbered():
            if rule[0][0] != rule[1][0]:
                has = [hall.now.hands[side[0]].has_leave(number) for side in rule]
                self.assertIn(has, ([True, False], [False, True], [False, False]))

    def stir(self, hall, goals, dice, many, rules=True):
        """So many drawn deeds; letters late, lost, doubled, out of order; rules put and dropped, too, or not."""
        done = 0
        for k in range(many):
            deed = drawn_deed(hall, goals(hall), dice)
            if deed[0] in ("put", "drop") and not rules:
                continue
            before = hall.standing()
            done += do(hall, deed)[0] == "told" and hall.standing() != before
            self.check_kept(hall)
        return done

    def all_hear(self, hall, goal, dice):
        """A wish is told, and its words come one by one, other deeds being done between, till all have heard it."""
        number = hall.tell(goal, hands=dice.choice((None, tuple(range(len(goal))))))
        marks = [row[0] for row in hall.under_way() if row[2] == ("word", (number, goal))]
        for mark in dice.sample(marks, len(marks)):
            hall.come(mark)
            for k in range(dice.randrange(3)):
                deed = drawn_deed(hall, [goal], dice)
                left = [row[0] for row in hall.under_way()]
                if deed[0] in ("beat", "stride", "double") or deed[0] == "come" and deed[1] not in marks:
                    do(hall, deed)
                elif left and left[0] not in marks:
                    hall.lose(left[0])
                self.check_kept(hall)
        self.assertEqual(hall.heard(), (number,) * len(goal))

    def check_rest(self, hall, end):
        """[3] (g), from now on; the end is where all is to come to rest."""
        here, gone, counts = hall.standing(), hall.gone(), dict(hall.counts())
        many = hall.settle()
        self.assertLessEqual(many, 60)
        self.check_kept(hall)
        self.assertEqual(hall.standing(), end)
        self.assertEqual(hall.gone() - gone, far(here, end))
        self.assertTrue(all(count - counts[number] in (0, 1) for number, count in hall.counts()))
        self.assertIs(hall.full_beat(), False)
        return many


class Small(Checked):
    def test_kept_through_whatever_deeds(self):
        moved = 0
        for plan, standing, dice in kept_plans(120, 471):
            moved += self.stir(Hall(plan, standing), lambda hall: good_ones(hall.plan()), dice, 100)
        self.assertGreater(moved, 200)

    def test_rest_behind_drawn_histories(self):
        short = 0
        for plan, standing, dice in kept_plans(200, 472):
            hall = Hall(plan, standing)
            self.stir(hall, lambda h: good_ones(h.plan()), dice, 40)
            # The last rule; from here on the room is the same.
            last, now = hall.standing(), hall.plan()
            self.stir(hall, lambda h: good_ones(now), dice, 30, rules=False)
            goal = dice.choice(good_ones(now))
            told = hall.rest(goal)
            self.all_hear(hall, goal, dice)
            self.assertEqual(told, door(now, last, goal))
            self.assertEqual(hall.rest(goal), told)
            self.check_rest(hall, told)
            short += told != goal
        self.assertGreater(short, 5)

    def test_rest_ahead_of_gaps_that_must_be_passed_at_once(self):
        dice = random.Random(473)
        short = 0
        for plan, one, other in ringed_pairs(150, 473):
            hall, good = Hall(plan, one), good_ones(plan)
            self.stir(hall, lambda h: good, dice, 40, rules=False)
            self.all_hear(hall, other, dice)
            self.check_rest(hall, door(plan, one, other))
            short += hall.standing() != other
        self.assertGreater(short, 50)

    def test_it_hangs_on_the_beginning_and_the_last_wish_alone(self):
        dice = random.Random(474)
        for plan, one, other in [*ringed_pairs(30, 474), *waiting_pairs(20, 474)]:
            good, ends = good_ones(plan), []
            for k in range(4):
                hall = Hall(plan, one)
                self.stir(hall, lambda h: good, dice, 15 * k, rules=False)
                self.all_hear(hall, other, dice)
                hall.settle()
                ends.append(hall.standing())
            self.assertEqual(ends, [door(plan, one, other)] * 4)

    def test_a_wish_told_to_one_goes_round_by_words(self):
        plan = Plan((3,) * 5, tuple(((k, "to", 1), (k + 1, "from", 1)) for k in range(4)))
        hall = Hall(plan, (0,) * 5)
        hall.tell((3,) * 5, hands=(4,))
        self.assertEqual([hall.full_beat() for k in range(5)], [True] * 5)
        self.assertEqual(hall.heard(), (1,) * 5)
        hall.settle()
        self.assertEqual((hall.standing(), hall.gone()), ((3,) * 5, 15))


class Great(Checked):
    def test_lines_of_thirty_figures(self):
        dice = random.Random(481)
        short = 0
        for plan, one, other in great_pairs(16, 481):
            hall = Hall(plan, one)
            self.stir(hall, lambda h: (one, other), dice, 30, rules=False)
            for goal in (other, one, other):
                self.all_hear(hall, goal, dice)
                told = hall.rest(goal)
                self.assertEqual(told, door(plan, one, goal))
                self.check_rest(hall, told)
            short += hall.standing() != other
        self.assertGreater(short, 3)

    def test_forty_rules_by_which_two_go_a_place_each_by_turns(self):
        for first in (0, 10 ** 29, THIRTY - 20):
            for plan in (turns_plan(first=first), mirrored(turns_plan(first=first))):
                for one, other in (((0, 0), (THIRTY, THIRTY)), ((THIRTY, THIRTY), (0, 0))):
                    hall = Hall(plan, one)
                    hall.tell(other)
                    self.assertEqual(hall.rest(other), other)
                    self.assertGreater(self.check_rest(hall, other), 20)
                    self.assertEqual(hall.gone(), 2 * THIRTY)
                    self.assertTrue(all(count <= 2 for number, count in hall.counts()))

    def test_twelve_that_wait_for_the_next_one(self):
        for plan in (row_plan(), mirrored(row_plan())):
            for one, other in (((0,) * 12, (THIRTY,) * 12), ((THIRTY,) * 12, (0,) * 12)):
                hall = Hall(plan, one)
                hall.tell(other)
                self.check_rest(hall, other)
                self.assertEqual(hall.gone(), 12 * THIRTY)

    def test_sixty_wishes_and_six_hundred_letters(self):
        dice = random.Random(482)
        plan, one, other = next(iter(great_pairs(1, 483)))
        hall = Hall(plan, one)
        for number in range(1, 51):
            self.assertEqual(hall.tell((one, other)[number % 2]), number)
        self.assertEqual(len(hall.under_way()), 600)
        for k in range(120):
            mark, to, letter = dice.choice(hall.under_way())
            do(hall, dice.choice((("come", mark), ("lose", mark), ("beat", to), ("stride", to))))
            self.check_kept(hall)
        for number in range(51, 60):
            hall.tell((one, other)[number % 2], hands=(dice.randrange(12),))
        hall.tell(other)
        hall.full_beat()
        self.assertEqual(hall.heard(), (60,) * 12)
        self.check_rest(hall, door(plan, one, other))
        while len(hall) > 0:
            hall.back()
        self.assertEqual((hall.standing(), hall.under_way(), hall.gone()), (one, (), 0))


if __name__ == "__main__":
    unittest.main()
