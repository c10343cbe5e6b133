"""Promise [9], and the last sentence of [3] (a): bounds, a good standing, and papers that there is none."""

import copy
import itertools
import random
import unittest

from notbothout.bounds import a_good, bounds, shows_none
from notbothout.errors import NoGood
from notbothout.plans import Plan
from notbothout.standings import is_good, is_standing
from notbothout.wants import has
from tests.plain import (
    Odd, anything, crowded_plans, good_ones, great_plans, great_side, nested, nested_list, plainly_leads,
    plainly_shows, sides_of, small_plans, small_want, stretched, stretched_rows, stretched_side,
)

THIRTY = 10 ** 30 - 1
GREAT = 10 ** 29
PLAN = Plan((4, 5, 2), (((0, "to", 1), (1, "from", 3)), ((1, "to", 2), (2, "to", 0))))
WANT = ((0, "from", 2), (2, "from", 1))
CHAIN = ((0, "from", 2), (1, "from", 3), (2, "to", 0))
TORN = Plan((3, 1), (((0, "from", 2), (0, "from", 2)), ((0, "to", 1), (0, "to", 1))))
RING = ("ring", ((0, "to", 1), (0, "from", 2)), ((0, "from", 2), (0, "to", 1)))


def rows_of(good):
    return tuple((min(places), max(places)) for places in zip(*good))


def changed_papers(plan, paper, dice):
    """The paper with a side otherwise, one more, one fewer, at each place of each chain."""
    sides = sides_of(plan.tops)
    for part in range(1, len(paper)):
        chain = paper[part]
        for at in range(len(chain)):
            swaps = [(side,) for side in dice.sample(sides, min(5, len(sides)))]
            for swap in [(), (chain[at], chain[at]), (dice.choice(sides), chain[at]), *swaps]:
                yield paper[:part] + (chain[:at] + swap + chain[at + 1:],) + paper[part + 1:]
        for other in (chain[::-1], chain + chain[:1], chain + (dice.choice(sides),), ()):
            yield paper[:part] + (other,) + paper[part + 1:]


class Checked(unittest.TestCase):
    def refused_with(self, plan, *told, **named):
        with self.assertRaises(NoGood) as caught:
            a_good(plan, *told, **named)
        return caught.exception.paper

    def check(self, plan, want, good):
        """bounds and a_good against all good standings that have the want."""
        word, told = bounds(plan, want)
        if good:
            self.assertEqual((word, told), ("bounds", rows_of(good)), (plan.tops, plan.rules, want))
            self.assertIn(a_good(plan, want), good)
            return "bounds"
        self.assertEqual(word, "none", (plan.tops, plan.rules, want))
        for paper in (told, self.refused_with(plan, want)):
            self.assertIs(shows_none(plan, want, paper), True)
            self.assertIs(plainly_shows(plan, want, paper), True)
        return told[0]


class Bounds(Checked):
    def test_as_written(self):
        self.assertEqual(bounds(PLAN), ("bounds", ((0, 4), (0, 5), (0, 2))))
        self.assertEqual(bounds(PLAN, ((0, "from", 2),)), ("bounds", ((2, 4), (3, 5), (0, 0))))
        self.assertEqual(bounds(Plan((0,))), ("bounds", ((0, 0),)))
        self.assertEqual(bounds(PLAN, WANT)[0], "none")
        self.assertEqual(a_good(Plan((0, 0))), (0, 0))

    def test_what_holds_everywhere_is_within_the_bounds(self):
        plan = Plan((4, 4), (((0, "from", 2), (0, "from", 2)), ((0, "to", 1), (1, "to", 3))))
        self.assertEqual(bounds(plan), ("bounds", ((2, 4), (0, 3))))
        self.assertEqual(bounds(plan, ((1, "from", 2),)), ("bounds", ((2, 4), (2, 3))))
        split = Plan((4, 4), (((0, "from", 3), (1, "from", 2)), ((0, "from", 1), (1, "to", 1))))
        self.assertEqual(bounds(split), ("bounds", ((1, 4), (0, 4))))

    def test_against_all_standings_of_small_plans(self):
        dice = random.Random(9)
        told = {"bounds": 0, "barred": 0, "ring": 0}
        for plan in small_plans(500, 9):
            for want in [(), small_want(plan, dice), small_want(plan, dice, 7)]:
                told[self.check(plan, want, good_ones(plan, want))] += 1
        self.assertGreater(min(told.values()), 50, told)

    def test_many_rules(self):
        dice = random.Random(91)
        for plan in small_plans(150, 91, most_rules=40):
            want = small_want(plan, dice)
            self.check(plan, want, good_ones(plan, want))
            self.check(plan, (), good_ones(plan))

    def test_the_want_left_out_is_none(self):
        for plan in small_plans(100, 92):
            self.assertEqual(bounds(plan), bounds(plan, ()))
            if bounds(plan)[0] == "bounds":
                self.assertEqual(a_good(plan), a_good(plan, ()))
            else:
                self.assertIs(shows_none(plan, (), self.refused_with(plan)), True)

    def test_plans_without_a_good_standing(self):
        for side in [(0, "from", 2), (0, "to", 0), (1, "from", 1)]:
            thing, word, place = side
            other = (thing, "to", place - 1) if word == "from" else (thing, "from", place + 1)
            plan = Plan((3, 1), ((side, side), (other, other)))
            for want in [(), (side,), (other,), (side, other), ((0, "from", 0),)]:
                self.assertIn(self.check(plan, want, []), ("barred", "ring"))
            self.assertEqual(bounds(plan)[1][0], "ring")

    def test_a_ring_that_is_closed_by_unlike_places(self):
        # No side of these rules is the other one of another: rings lie between them.
        plan = Plan((9, 9), (
            ((0, "from", 6), (1, "from", 6)), ((0, "from", 5), (1, "to", 3)),
            ((0, "to", 3), (1, "from", 7)), ((0, "to", 2), (1, "to", 2)),
        ))
        self.assertEqual(self.check(plan, (), good_ones(plan)), "ring")

    def test_twelve_things_forty_rules_and_thirty_figures_against_all_standings(self):
        dice = random.Random(93)
        for plan in crowded_plans(8, 93):
            great = stretched(plan, GREAT)
            wants = [(), tuple(dice.choice(sides_of(plan.tops)) for k in range(2))]
            wants += [tuple((t, "from", 0) for t in range(12)) + tuple((t, "to", plan.tops[t]) for t in range(12))]
            for want in wants:
                good = good_ones(plan, want)
                self.check(plan, want, good)
                wide = tuple(stretched_side(side, GREAT) for side in want)
                word, told = bounds(great, wide)
                if good:
                    self.assertEqual((word, told), ("bounds", stretched_rows(rows_of(good), GREAT)))
                    self.assertIn(tuple(place // GREAT for place in a_good(great, wide)), good)
                else:
                    self.assertIs(shows_none(great, wide, told), True)
                    self.assertIs(shows_none(great, wide, self.refused_with(great, wide)), True)

    def test_great_plans_by_what_is_just_within_and_just_beyond(self):
        dice = random.Random(94)
        told = {"bounds": 0, "none": 0}
        for plan in great_plans(30, 94):
            for want in [(), tuple(great_side(plan.tops, dice) for k in range(2))]:
                told[self.check_great(plan, want)] += 1
        self.assertGreater(min(told.values()), 5, told)

    def check_great(self, plan, want):
        word, rows = bounds(plan, want)
        if word == "none":
            self.assertIs(shows_none(plan, want, rows), True)
            return word
        for thing, (low, high) in enumerate(rows):
            for side in [(thing, "to", low), (thing, "from", high)]:
                good = a_good(plan, want + (side,))
                self.assertTrue(is_standing(plan, good) and is_good(plan, good) and has(want + (side,), good))
                self.assertEqual(good[thing], side[2])
            for beyond in [(thing, "to", low - 1), (thing, "from", high + 1)]:
                if 0 <= beyond[2] <= plan.tops[thing]:
                    paper = self.refused_with(plan, want + (beyond,))
                    self.assertIs(shows_none(plan, want + (beyond,), paper), True)
        return word


class Papers(Checked):
    def test_both_forms(self):
        self.assertIs(shows_none(PLAN, WANT, ("barred", CHAIN)), True)
        self.assertIs(shows_none(TORN, (), RING), True)
        self.assertIs(shows_none(TORN, ((1, "from", 1),), RING), True)
        self.assertIs(shows_none(TORN, (), ("ring", RING[2], RING[1])), True)

    def test_barred_by_the_side_that_it_begins_with(self):
        self.assertIs(shows_none(TORN, ((0, "to", 1),), ("barred", RING[1])), True)
        self.assertIs(shows_none(TORN, ((0, "from", 2),), ("barred", RING[2])), True)

    def test_barred_at_once(self):
        want = ((0, "to", 1), (0, "from", 2))
        self.assertIs(shows_none(PLAN, want, ("barred", want[:1])), True)
        self.assertIs(shows_none(PLAN, want, ("barred", want[1:])), True)
        self.assertIs(shows_none(PLAN, want[:1], ("barred", want[:1])), False)

    def test_barred_begins_at_the_want_and_bars_the_want(self):
        self.assertIs(shows_none(PLAN, WANT[:1], ("barred", CHAIN)), False)
        self.assertIs(shows_none(PLAN, WANT[1:], ("barred", CHAIN)), False)
        self.assertIs(shows_none(PLAN, (), ("barred", CHAIN)), False)
        self.assertIs(shows_none(PLAN, WANT, ("barred", CHAIN[:2])), False)
        self.assertIs(shows_none(PLAN, WANT, ("barred", CHAIN[1:])), False)
        self.assertIs(shows_none(PLAN, ((0, "from", 3), WANT[1]), ("barred", CHAIN)), False)
        self.assertIs(shows_none(PLAN, ((0, "from", 3), WANT[1]), ("barred", ((0, "from", 3), *CHAIN))), True)
        self.assertIs(shows_none(PLAN, WANT, ("barred", ())), False)

    def test_ring_goes_there_and_back(self):
        word, one, two = RING
        for paper in [
            (word, one, one), (word, two, two), (word, one, two[:1]), (word, one[:1], two), (word, one, ()),
            (word, (), two), (word, (), ()), (word, one[1:], two), (word, one + one[1:], two + one), (word, one),
            (word, one + two, two), (word, one, two, one), (word, (one, two)), (word,), word, ("barred", one, two),
        ]:
            self.assertIs(shows_none(TORN, (), paper), False, paper)
        half = Plan((3, 1), TORN.rules[:1])
        self.assertIs(shows_none(half, (), RING), False)
        self.assertIs(shows_none(half, (), ("ring", RING[1], RING[1][::-1])), False)

    def test_ring_of_a_side_that_has_no_other_one(self):
        for side in [(0, "from", 0), (0, "to", 3)]:
            for one, two in itertools.product([(side,), (side, side), (side, None), ()], repeat=2):
                self.assertIs(shows_none(Plan((3,)), (), ("ring", one, two)), False)

    def test_ring_ends_at_the_other_side_itself(self):
        side, other = (0, "to", 1), (0, "from", 2)
        weaker = (0, "from", 1)
        self.assertIs(shows_none(TORN, (), ("ring", (side, other, weaker), (weaker, side))), False)
        self.assertIs(shows_none(TORN, (), ("ring", (side, other), (other, side, (0, "to", 2)))), False)
        self.assertIs(shows_none(TORN, (), ("ring", (side, side, other), (other, other, side))), True)

    def test_words_and_forms(self):
        for paper in [
            ["barred", CHAIN], ("barred", list(CHAIN)), ("Barred", CHAIN), ("ring", CHAIN), (b"barred", CHAIN),
            (CHAIN, "barred"), ("barred", CHAIN, CHAIN), ("barred",), ("barred", CHAIN, ()), (None, CHAIN),
            (Odd(), CHAIN), CHAIN, ("barred", *CHAIN), ("barred", (CHAIN,)), (("barred", CHAIN),), ("", CHAIN),
            ("barred", CHAIN[:2] + ([2, "to", 0],)), ("barred", CHAIN[:2] + ((2, "to", False),)),
            ("barred", CHAIN[:2] + (Odd(),)), ("barred", (Odd(),)), ("barred", Odd()),
        ]:
            self.assertIs(shows_none(PLAN, WANT, paper), False)

    def test_of_anything(self):
        for thing in [*anything(), nested("barred", 30), nested_list("ring", 30)]:
            self.assertIs(shows_none(PLAN, WANT, thing), False)
            self.assertIs(shows_none(PLAN, WANT, ("barred", thing)), False)
            self.assertIs(shows_none(PLAN, WANT, (thing, CHAIN)), False)
            self.assertIs(shows_none(TORN, (), ("ring", thing, RING[2])), False)
            self.assertIs(shows_none(TORN, (), ("ring", RING[1], thing)), False)
            self.assertIs(shows_none(TORN, (), (thing, RING[1], RING[2])), False)
            for at in range(3):
                chain = CHAIN[:at] + (thing,) + CHAIN[at + 1:]
                self.assertIs(shows_none(PLAN, WANT, ("barred", chain)), False)

    def test_told_papers_with_something_otherwise(self):
        dice = random.Random(95)
        told = {True: 0, False: 0}
        for plan in small_plans(200, 95):
            want = small_want(plan, dice)
            word, paper = bounds(plan, want)
            for other in changed_papers(plan, paper, dice) if word == "none" else ():
                expected = plainly_shows(plan, want, other)
                told[expected] += 1
                self.assertIs(shows_none(plan, want, other), expected, (plan.rules, want, other))
        self.assertGreater(min(told.values()), 50, told)

    def test_refused_where_some_good_standing_has_the_want(self):
        dice = random.Random(96)
        asked = 0
        for plan in small_plans(200, 96):
            want = small_want(plan, dice)
            if not good_ones(plan, want):
                continue
            for k in range(20):
                chains = [self.some_chain(plan, want, dice) for _ in range(2)]
                for paper in [("barred", chains[0]), ("ring", chains[0], chains[1]), ("ring", *[chains[0]] * 2)]:
                    asked += 1
                    self.assertIs(shows_none(plan, want, paper), False)
        self.assertGreater(asked, 1000)

    def some_chain(self, plan, want, dice):
        sides = sides_of(plan.tops)
        row = [dice.choice(want or sides)]
        for k in range(dice.randrange(6)):
            row.append(dice.choice([side for side in sides if plainly_leads(plan, row[-1], side)]))
        return tuple(row)


class Ways(Checked):
    """What [2] says of all of them."""

    def test_by_names(self):
        self.assertIs(shows_none(thing=("barred", CHAIN), want=WANT, plan=PLAN), True)
        self.assertEqual(bounds(want=((0, "from", 2),), plan=PLAN), ("bounds", ((2, 4), (3, 5), (0, 0))))
        self.assertEqual(bounds(plan=PLAN), bounds(PLAN))
        self.assertEqual(a_good(want=((0, "from", 2),), plan=PLAN)[2], 0)
        self.assertEqual(self.refused_with(TORN, want=())[0], "ring")

    def test_kinds(self):
        for plan in small_plans(60, 97):
            word, told = bounds(plan)
            self.assertIs(type(bounds(plan)), tuple)
            self.assertIs(type(told), tuple)
            if word == "bounds":
                self.assertEqual({type(row) for row in told}, {tuple})
                self.assertEqual({type(place) for row in told for place in row}, {int})
                self.assertIs(type(a_good(plan)), tuple)
                self.assertEqual({type(place) for place in a_good(plan)}, {int})
            else:
                self.assertEqual({type(part) for part in told[1:]}, {tuple})
                self.assertEqual({type(side) for part in told[1:] for side in part}, {tuple})

    def test_asked_again_the_same_is_told(self):
        for plan in small_plans(60, 98):
            self.assertEqual(bounds(plan), bounds(Plan(plan.tops, plan.rules)))
            if bounds(plan)[0] == "bounds":
                self.assertEqual(a_good(plan), a_good(plan))

    def test_what_is_handed_in_stays_as_it_was(self):
        handed = [["barred", [list(side) for side in CHAIN]], ("barred", list(CHAIN)), ("ring", [1], {"a": [2]})]
        before = copy.deepcopy(handed)
        for thing in handed:
            shows_none(PLAN, WANT, thing)
        self.assertEqual(handed, before)
        tops, rules = PLAN.tops, PLAN.rules
        bounds(PLAN, WANT)
        a_good(PLAN, WANT[:1])
        self.assertEqual((PLAN.tops, PLAN.rules), (tops, rules))


if __name__ == "__main__":
    unittest.main()
