"""Promise [10], and [3] (a): the nearest good standing that has a want, and the chains that show it."""

import copy
import itertools
import random
import unittest

from notbothout.bounds import a_good, shows_none
from notbothout.errors import NoGood
from notbothout.middles import is_between, middle
from notbothout.nearest import nearest, nearest_paper, shows_nearest
from notbothout.plans import Plan
from notbothout.standings import is_good
from notbothout.wants import has
from tests.plain import (
    Odd, anything, crowded_plans, good_ones, great_plans, great_side, is_plain, nested, nested_list, otherwise,
    plainly_chain, plainly_has, plainly_leads, plainly_shows, sides_of, small_plans, small_want, standings_of,
    stretched, stretched_side,
)

THIRTY = 10 ** 30 - 1
GREAT = 10 ** 29
# Thing 0 beyond 1 asks for thing 1 from 3; thing 1 from 3 asks for thing 2 to 0.
PLAN = Plan((4, 5, 2), (((0, "to", 1), (1, "from", 3)), ((1, "to", 2), (2, "to", 0))))
HERE = (0, 0, 2)
WANT = ((0, "from", 2),)
PAPER = (
    ((0, "from", 2),),
    ((0, "from", 2), (1, "from", 3)),
    ((0, "from", 2), (1, "from", 3), (2, "to", 0)),
)
NEW = (2, 3, 0)


def plainly_nearest(standing, good):
    """Those of the good ones that have the want, all handed in, that lie between the standing and each of them."""
    return [x for x in good if all(is_between(standing, x, y) for y in good)]


def cost(prices, one, other):
    """What it costs to go from one to the other; prices[thing][place] is (on, back) between place and the next."""
    total = 0
    for row, here, there in zip(prices, one, other):
        total += sum(on for on, back in row[here:there]) + sum(back for on, back in row[there:here])
    return total


def drawn_prices(plan, dice):
    return [[(dice.choice((0, 0, 1, 7)), dice.choice((0, 1, 5))) for k in range(top)] for top in plan.tops]


def is_side_tuple(plan, chain):
    if type(chain) is not tuple or not all(type(side) is tuple and is_plain(side) for side in chain):
        return False
    sides = {repr(side) for side in sides_of(plan.tops)}
    return all(repr(side) in sides for side in chain)


def plainly_pulls(plan, standing, want, new, thing):
    """The words of [10], of small plans, new being a good standing that has the want."""
    if type(thing) is not tuple or len(thing) != len(plan):
        return False
    for number, (here, there, chain) in enumerate(zip(standing, new, thing)):
        if here == there:
            if type(chain) is not tuple or chain:
                return False
        else:
            end = (number, "from" if there > here else "to", there)
            if not is_side_tuple(plan, chain) or not plainly_chain(plan, chain):
                return False
            if chain[0] not in want or chain[-1] != end:
                return False
    return True


def asked(many, seed, most_rules=9):
    """(plan, standing, want, the good ones that have it), of small plans that have a good standing."""
    dice = random.Random(seed)
    for plan in small_plans(many, seed, most_rules):
        good = good_ones(plan)
        for k in range(4 if good else 0):
            want = small_want(plan, dice, 5)
            yield plan, dice.choice(good), want, [x for x in good if plainly_has(want, x)]


class Checked(unittest.TestCase):
    def refused(self, call, *told, **named):
        with self.assertRaises(NoGood) as caught:
            call(*told, **named)
        return caught.exception.paper


class Nearest(Checked):
    def test_as_written(self):
        self.assertEqual(nearest(PLAN, HERE, WANT), NEW)
        self.assertEqual(nearest(PLAN, (4, 5, 0), ((2, "from", 1),)), (1, 2, 1))
        self.assertEqual(nearest(PLAN, (1, 4, 0), ((0, "from", 3), (1, "from", 2))), (3, 4, 0))

    def test_against_all_good_standings_of_small_plans(self):
        told = {True: 0, False: 0}
        for plan, standing, want, good in asked(500, 101):
            told[bool(good)] += 1
            if good:
                self.assertEqual([nearest(plan, standing, want)], plainly_nearest(standing, good))
            else:
                for call in (nearest, nearest_paper):
                    paper = self.refused(call, plan, standing, want)
                    self.assertIs(shows_none(plan, want, paper), True)
                    self.assertIs(plainly_shows(plan, want, paper), True)
        self.assertGreater(min(told.values()), 100, told)

    def test_many_rules(self):
        for plan, standing, want, good in asked(300, 102, most_rules=40):
            if good:
                self.assertEqual([nearest(plan, standing, want)], plainly_nearest(standing, good))

    def test_none_is_cheaper_whatever_each_place_costs(self):
        dice = random.Random(103)
        for plan, standing, want, good in asked(250, 103):
            for k in range(4 if good else 0):
                prices = drawn_prices(plan, dice)
                told = cost(prices, standing, nearest(plan, standing, want))
                self.assertEqual(told, min(cost(prices, standing, x) for x in good))

    def test_the_middle_of_three_good_ones_is_good(self):
        dice = random.Random(104)
        for plan in small_plans(150, 104):
            good = good_ones(plan)
            for k in range(20 if good else 0):
                self.assertIs(is_good(plan, middle(*[dice.choice(good) for end in range(3)])), True)

    def test_nothing_wanted(self):
        for plan, standing, want, good in asked(60, 105):
            self.assertEqual(nearest(plan, standing, ()), standing)
            self.assertEqual(nearest_paper(plan, standing, ()), ((),) * len(plan))
            self.assertIs(shows_nearest(plan, standing, (), standing, ((),) * len(plan)), True)

    def test_one_who_has_it_stays(self):
        for plan, standing, want, good in asked(60, 106):
            if standing in good:
                self.assertEqual(nearest(plan, standing, want), standing)
                self.assertEqual(nearest_paper(plan, standing, want), ((),) * len(plan))

    def test_wants_one_behind_another_and_all_at_once(self):
        dice = random.Random(107)
        moved = 0
        for plan, standing, want, good in asked(300, 107):
            if not good:
                continue
            sides = list(want)
            dice.shuffle(sides)
            here = standing
            for side in sides:
                here = nearest(plan, here, (side,))
            together = nearest(plan, standing, want)
            moved += together != standing
            self.assertEqual(here, together)
            for at in range(len(want)):
                self.assertEqual(nearest(plan, nearest(plan, standing, want[:at]), want), together)
        self.assertGreater(moved, 100)

    def test_wants_that_none_has(self):
        for want in [((0, "from", 2), (2, "from", 1)), ((1, "to", 2), (1, "from", 3)), ((1, "to", 0), (0, "from", 4))]:
            for call in (nearest, nearest_paper):
                self.assertIs(shows_none(PLAN, want, self.refused(call, PLAN, HERE, want)), True)

    def test_against_twelve_things_forty_rules_and_thirty_figures(self):
        dice = random.Random(108)
        for plan in crowded_plans(8, 108):
            good, great = good_ones(plan), stretched(plan, GREAT)
            for k in range(3 if good else 0):
                standing = dice.choice(good)
                want = tuple(dice.choice(sides_of(plan.tops)) for k in range(dice.choice((1, 2, 24))))
                having = [x for x in good if plainly_has(want, x)]
                at = tuple(place * GREAT + dice.randrange(GREAT) for place in standing)
                wide = tuple(stretched_side(side, GREAT) for side in want)
                if not having:
                    self.assertIs(shows_none(great, wide, self.refused(nearest, great, at, wide)), True)
                    continue
                told = nearest(great, at, wide)
                self.assertEqual([tuple(place // GREAT for place in told)], plainly_nearest(standing, having))
                self.assertIs(shows_nearest(great, at, wide, told, nearest_paper(great, at, wide)), True)

    def test_great_plans(self):
        dice = random.Random(109)
        told = {True: 0, False: 0}
        for plan in great_plans(25, 109):
            try:
                standing = a_good(plan)
            except NoGood:
                continue
            for many in (1, 2, 24):
                want = tuple(great_side(plan.tops, dice) for k in range(many))
                if many == 24:
                    far_one = a_good(plan, want[:1]) if self.some_has(plan, want[:1]) else standing
                    want = tuple((t, w, far_one[t]) for t in range(12) for w in ("from", "to"))
                told[self.some_has(plan, want)] += 1
                self.check_great(plan, standing, want)
        self.assertGreater(min(told.values()), 5, told)

    def some_has(self, plan, want):
        try:
            return has(want, a_good(plan, want))
        except NoGood:
            return False

    def check_great(self, plan, standing, want):
        if not self.some_has(plan, want):
            self.assertIs(shows_none(plan, want, self.refused(nearest, plan, standing, want)), True)
            return
        new, paper = nearest(plan, standing, want), nearest_paper(plan, standing, want)
        self.assertTrue(is_good(plan, new) and has(want, new))
        self.assertIs(shows_nearest(plan, standing, want, new, paper), True)
        self.assertTrue(is_between(standing, new, a_good(plan, want)))
        for thing, (here, there) in enumerate(zip(standing, new)):
            self.assertEqual(paper[thing] == (), here == there)
            if here != there:
                # None that has the want is nearer with this thing.
                short = (thing, "to", there - 1) if there > here else (thing, "from", there + 1)
                self.assertFalse(self.some_has(plan, want + (short,)))


class Papers(Checked):
    def test_as_written(self):
        self.assertEqual(nearest_paper(PLAN, HERE, WANT), PAPER)
        self.assertIs(shows_nearest(PLAN, HERE, WANT, NEW, PAPER), True)

    def test_empty_just_where_a_thing_stays(self):
        moved = 0
        for plan, standing, want, good in asked(300, 111):
            if good:
                new, paper = nearest(plan, standing, want), nearest_paper(plan, standing, want)
                moved += new != standing
                self.assertEqual([chain == () for chain in paper], [a == b for a, b in zip(standing, new)])
                self.assertIs(plainly_pulls(plan, standing, want, new, paper), True)
                self.assertIs(shows_nearest(plan, standing, want, new, paper), True)
        self.assertGreater(moved, 100)

    def test_longer_chains(self):
        longer = (
            ((0, "from", 2), (0, "from", 2), (0, "from", 1), (0, "from", 1)),
            ((0, "from", 2),) * 50 + ((1, "from", 3),) * 50,
            ((0, "from", 2), (1, "from", 3), (1, "from", 3), (2, "to", 0), (2, "to", 0)),
        )
        self.assertIs(shows_nearest(PLAN, HERE, WANT, NEW, PAPER[:1] + longer[1:]), True)
        self.assertIs(shows_nearest(PLAN, HERE, WANT, NEW, longer), False)
        dice = random.Random(112)
        told = {True: 0, False: 0}
        for plan, standing, want, good in asked(150, 112):
            for paper in [self.lengthened(plan, nearest_paper(plan, standing, want), dice)] if good else []:
                new = nearest(plan, standing, want)
                expected = plainly_pulls(plan, standing, want, new, paper)
                told[expected and any(paper)] += 1
                self.assertIs(shows_nearest(plan, standing, want, new, paper), expected)
        self.assertGreater(min(told.values()), 20, told)

    def lengthened(self, plan, paper, dice):
        """The paper with a side put in at some place of each chain, which may fit or not."""
        rows = []
        for chain in paper:
            at = dice.randrange(len(chain) + 1)
            led = [side for side in sides_of(plan.tops) if at and plainly_leads(plan, chain[at - 1], side)]
            rows.append(chain[:at] + ((dice.choice(led),) if led else chain[:1]) + chain[at:])
        return tuple(rows)

    def test_with_something_otherwise_at_any_place_and_depth(self):
        dice = random.Random(113)
        told = {True: 0, False: 0}
        for plan, standing, want, good in asked(120, 113):
            if not good:
                continue
            new, paper = nearest(plan, standing, want), nearest_paper(plan, standing, want)
            for other in otherwise(paper, dice):
                expected = plainly_pulls(plan, standing, want, new, other)
                told[expected] += 1
                self.assertIs(shows_nearest(plan, standing, want, new, other), expected, (plan.rules, want, other))
            for other in [*otherwise(new, dice), *standings_of(plan)]:
                if type(other) is not tuple or not all(type(k) is int for k in other) or other not in good:
                    self.assertIs(shows_nearest(plan, standing, want, other, paper), False, (plan.rules, other))
        self.assertGreater(min(told.values()), 20, told)

    def test_good_ones_that_have_the_want_but_are_not_the_nearest(self):
        asked_ones = 0
        for plan, standing, want, good in asked(150, 114):
            if not good:
                continue
            new, paper = nearest(plan, standing, want), nearest_paper(plan, standing, want)
            for other in good:
                if other == new:
                    continue
                ends = [(t, "from" if b > a else "to", b) for t, (a, b) in enumerate(zip(standing, other))]
                bold = tuple(() if a == b else c + (e,) for a, b, c, e in zip(standing, other, paper, ends))
                blunt = tuple(() if a == b else (e,) for a, b, e in zip(standing, other, ends))
                wanted = tuple(() if a == b else want[:1] + (e,) for a, b, e in zip(standing, other, ends))
                for thing in (paper, bold, blunt, wanted, ((),) * len(plan)):
                    asked_ones += 1
                    self.assertIs(shows_nearest(plan, standing, want, other, thing), False)
        self.assertGreater(asked_ones, 500)

    def test_new_is_good_and_has_the_want(self):
        self.assertIs(shows_nearest(PLAN, HERE, WANT, (2, 0, 2), (PAPER[0], (), ())), False)
        self.assertIs(shows_nearest(PLAN, HERE, WANT, HERE, ((), (), ())), False)
        self.assertIs(shows_nearest(PLAN, HERE, WANT + ((0, "from", 3),), NEW, PAPER), False)
        self.assertIs(shows_nearest(PLAN, HERE, (), NEW, PAPER), False)
        self.assertIs(shows_nearest(PLAN, HERE, WANT + ((0, "from", 1),), NEW, PAPER), True)

    def test_chains_begin_at_the_want_and_end_where_the_thing_comes(self):
        for at, chain in itertools.product(range(3), [
            ((0, "from", 3), (0, "from", 2)), ((1, "from", 3),), ((2, "to", 0),), ((0, "from", 2), (1, "from", 2)),
            ((0, "from", 2), (1, "to", 3)), ((0, "from", 2), (1, "from", 3), (2, "to", 1)), ((0, "to", 2),), (),
        ]):
            self.assertIs(shows_nearest(PLAN, HERE, WANT, NEW, PAPER[:at] + (chain,) + PAPER[at + 1:]), False)

    def test_of_anything(self):
        for thing in [*anything(), nested((0, "from", 2), 28), nested_list((0, "from", 2), 28)]:
            self.assertIs(shows_nearest(PLAN, HERE, WANT, NEW, thing), False)
            self.assertIs(shows_nearest(PLAN, HERE, WANT, thing, PAPER), False)
            self.assertIs(shows_nearest(PLAN, HERE, WANT, thing, thing), False)
            for at in range(3):
                self.assertIs(shows_nearest(PLAN, HERE, WANT, NEW, PAPER[:at] + (thing,) + PAPER[at + 1:]), False)
                self.assertIs(shows_nearest(PLAN, HERE, WANT, NEW[:at] + ((thing,),) + NEW[at + 1:], PAPER), False)
            bad = PAPER[:1] + (((0, "from", 2), thing),) + PAPER[2:]
            self.assertIs(shows_nearest(PLAN, HERE, WANT, NEW, bad), False)
        for thing in [None, [], False, 0, "", {}, ((),), Odd()]:
            self.assertIs(shows_nearest(PLAN, (3, 4, 0), WANT, (3, 4, 0), ((), thing, ())), False)

    def test_truths_and_lists(self):
        plan = Plan((1, 1))
        want = ((0, "from", 1),)
        self.assertIs(shows_nearest(plan, (0, 0), want, (1, 0), (want, ())), True)
        for new, paper in [
            ((True, 0), (want, ())), ((1, False), (want, ())), ([1, 0], (want, ())), ((1, 0), [want, ()]),
            ((1, 0), (list(want), ())), ((1, 0), (want, [])), ((1, 0), (((0, "from", True),), ())),
            ((1, 0), (((False, "from", 1),), ())), ((1, 0), ((list(want[0]),), ())), ((1, 0), (want, (), ())),
            ((1, 0), (want,)), ((1, 0), (want, None)), ((1, 0, 0), (want, ())), ((1,), (want, ())),
        ]:
            self.assertIs(shows_nearest(plan, (0, 0), want, new, paper), False, (new, paper))


class Ways(Checked):
    """What [2] says of all of them."""

    def test_by_names(self):
        self.assertEqual(nearest(want=WANT, standing=HERE, plan=PLAN), NEW)
        self.assertEqual(nearest_paper(want=WANT, standing=HERE, plan=PLAN), PAPER)
        self.assertIs(shows_nearest(thing=PAPER, new=NEW, want=WANT, standing=HERE, plan=PLAN), True)
        want = ((1, "to", 2), (0, "from", 2))
        self.assertIs(shows_none(PLAN, want, self.refused(nearest, want=want, standing=HERE, plan=PLAN)), True)

    def test_kinds(self):
        for plan, standing, want, good in asked(60, 121):
            if good:
                self.assertTrue(is_plain((nearest(plan, standing, want), nearest_paper(plan, standing, want))))
            else:
                self.assertTrue(is_plain(self.refused(nearest_paper, plan, standing, want)))

    def test_asked_again_the_same_is_told(self):
        for plan, standing, want, good in asked(60, 122):
            if good:
                again = Plan(plan.tops, plan.rules)
                self.assertEqual(nearest(plan, standing, want), nearest(again, standing, want))
                self.assertEqual(nearest_paper(plan, standing, want), nearest_paper(again, standing, want))

    def test_what_is_handed_in_stays_as_it_was(self):
        handed = [[list(NEW)], ([list(chain) for chain in PAPER]), ({"a": [2]}, [1], (list(WANT),)), list(PAPER)]
        before = copy.deepcopy(handed)
        for new, thing in itertools.product([NEW, *handed], handed):
            shows_nearest(PLAN, HERE, WANT, new, thing)
        self.assertEqual(handed, before)
        self.assertEqual((PLAN.tops, HERE, WANT), ((4, 5, 2), (0, 0, 2), ((0, "from", 2),)))


if __name__ == "__main__":
    unittest.main()
