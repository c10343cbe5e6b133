"""Promise [16], and [3] (d): the fewest waves, and the runs by which each step is done as early as can be."""

import copy
import itertools
import random
import unittest

from notbothout.errors import Knotted
from notbothout.going import way
from notbothout.middles import far
from notbothout.needs import needs
from notbothout.plans import Plan
from notbothout.waiting import waits
from notbothout.waves import runs, shows_runs, wave_of, waves
from tests.plain import Odd, anything, is_plain, nested, nested_list, otherwise, stretched
from tests.walks import (
    CROSSED, THIRTY, TIED, drawn_pairs, early_waves, fewest_waves, free_pairs, good_set, great_pairs, is_wave, mirrored,
    plain_needs, plainly_ring, reach, row_plan, track, turns_plan, whole_rows,
)

GREAT = 10 ** 29
PLAN, HERE, THERE = CROSSED, (0, 0), (4, 5)
RUNS = ((1, 0, 0, 1), (1, 1, 0, 3), (4, 0, 1, 4), (5, 1, 3, 5))


def plainly_runs(good, one, other, many, thing):
    """The words of [16], step by step."""
    if not whole_rows(thing, 4):
        return False
    by_wave = {}
    for wave, number, here, there in thing:
        if here == there or max(abs(here), abs(there)) > 100 or not 0 <= number < len(one):
            return False
        line = track(here, there)
        for k, (a, b) in enumerate(zip(line, line[1:])):
            by_wave.setdefault(wave + k, []).append((number, a, b))
    if not all(1 <= wave <= many for wave in by_wave):
        return False
    if sum(len(steps) for steps in by_wave.values()) != far(one, other):
        return False
    here = one
    for wave in sorted(by_wave):
        steps = by_wave[wave]
        if len({number for number, a, b in steps}) < len(steps) or any(here[n] != a for n, a, b in steps):
            return False
        moved = {number: b for number, a, b in steps}
        there = tuple(moved.get(number, place) for number, place in enumerate(here))
        if not is_wave(good, here, there):
            return False
        here = there
    return here == other


def cut(rows, at, by):
    """The runs with one of them cut in two behind so many of its steps."""
    wave, thing, here, there = rows[at]
    between = track(here, there)[by]
    return rows[:at] + ((wave, thing, here, between), (wave + by, thing, between, there)) + rows[at + 1:]


def delayed(rows, behind, by=1):
    """The runs with each step behind that wave so many waves later; runs that go on through it are cut."""
    found = []
    for wave, thing, here, there in rows:
        line = track(here, there)
        for k, (a, b) in enumerate(zip(line, line[1:])):
            found.append((wave + k + (by if wave + k > behind else 0), thing, a, b))
    return tuple(found)


def changed_runs(rows, many, dice):
    """(many, runs) with something otherwise that may do or not."""
    shuffled = list(rows)
    dice.shuffle(shuffled)
    yield from [(many, tuple(shuffled)), (many + 1, rows), (many - 1, rows), (many, rows[::-1]), (0, rows)]
    yield from [(many, delayed(rows, 0, by)) for by in (-1, 0, 1)]
    for wave in range(many + 1):
        yield from [(many + 1, delayed(rows, wave)), (many, delayed(rows, wave)), (many - 1, delayed(rows, wave, -1))]
        yield many, delayed(rows, wave, -1)
    for at, (wave, thing, here, there) in enumerate(rows):
        yield from [(many, cut(rows, at, by)) for by in range(1, abs(there - here))]
        for other in [(wave + 1, thing, here, there), (wave - 1, thing, here, there), (wave, thing, there, here)]:
            yield many, rows[:at] + (other,) + rows[at + 1:]
            yield many + 1, rows[:at] + (other,) + rows[at + 1:]
        yield many, rows[:at] + rows[at + 1:]
        yield many, rows + rows[at:at + 1]


class Checked(unittest.TestCase):
    def refused(self, call, *told, **named):
        with self.assertRaises(Knotted) as caught:
            call(*told, **named)
        return caught.exception.ring

    def check_great(self, plan, one, other):
        """The told runs lead there, and the told waits show that fewer waves don't; both by the needs alone."""
        many, rows, chain = waves(plan, one, other), runs(plan, one, other), waits(plan, one, other)
        asked = needs(plan, one, other)
        self.assertLessEqual(len(rows), len(plan) + len(asked))
        self.assertEqual(rows, tuple(sorted(rows)))
        last = 0
        for thing in range(len(plan)):
            last = max(last, self.check_own(one, other, thing, [row for row in rows if row[1] == thing]))
        self.assertEqual(last, many)
        for i, stop, j, place in asked:
            self.assertGreater(self.leaving(rows, i, stop), self.coming(rows, j, place))
        self.assertEqual(sum(abs(here - there) for thing, here, there in chain), many)
        for (j, begun, come), (i, stop, end) in zip(chain, chain[1:]):
            self.assertIn((i, stop, j, come), asked)
        self.assertIs(shows_runs(plan, one, other, many, rows), True)
        self.assertIs(shows_runs(plan, one, other, many - 1, rows), False)
        for wave, thing, here, there in rows:
            toward = 1 if there > here else -1
            self.assertEqual(wave_of(plan, one, other, thing, here + toward), wave)
            self.assertEqual(wave_of(plan, one, other, thing, there), wave + abs(there - here) - 1)
        return many, rows

    def check_own(self, one, other, thing, rows):
        """The last wave of one thing's runs, which lead it its way and are as long as can be."""
        here, last = one[thing], None
        for wave, number, begin, end in rows:
            self.assertEqual(begin, here)
            self.assertTrue((end > begin) == (other[thing] > one[thing]) and end != begin)
            self.assertTrue(wave >= 1 if last is None else wave > last + 1)
            here, last = end, wave + abs(end - begin) - 1
        self.assertEqual(here, other[thing])
        return last or 0

    def leaving(self, rows, thing, stop):
        found = [w + abs(stop - a) for w, t, a, b in rows
                 if t == thing and min(a, b) <= stop <= max(a, b) and stop != b]
        self.assertEqual(len(found), 1)
        return found[0]

    def coming(self, rows, thing, place):
        found = [w + abs(place - a) - 1 for w, t, a, b in rows
                 if t == thing and min(a, b) <= place <= max(a, b) and place != a]
        self.assertEqual(len(found), 1)
        return found[0]


class Waves(Checked):
    def test_as_written(self):
        self.assertEqual(waves(PLAN, HERE, THERE), 6)
        self.assertEqual(runs(PLAN, HERE, THERE), RUNS)
        self.assertEqual([wave_of(PLAN, HERE, THERE, 0, k) for k in range(1, 5)], [1, 4, 5, 6])
        self.assertEqual([wave_of(PLAN, HERE, THERE, 1, k) for k in range(1, 6)], [1, 2, 3, 5, 6])
        free = Plan((4, 5))
        self.assertEqual(runs(free, HERE, THERE), ((1, 0, 0, 4), (1, 1, 0, 5)))
        self.assertEqual(runs(free, THERE, HERE), ((1, 0, 4, 0), (1, 1, 5, 0)))
        self.assertEqual(waves(free, (1, 5), (4, 5)), 3)

    def test_against_all_sets_of_steps_of_small_plans(self):
        waited = 0
        for plan, one, other, good in free_pairs(250, 221):
            many = waves(plan, one, other)
            waited += many > max(abs(a - b) for a, b in zip(one, other))
            self.assertEqual(many, fewest_waves(good, one)[other], (plan.tops, plan.rules, one, other))
        self.assertGreater(waited, 100)

    def test_each_place_of_each_way_but_the_first(self):
        for plan, one, other, good in free_pairs(300, 222):
            early = early_waves(good, one, other)
            self.assertEqual(len(early) - 1, waves(plan, one, other))
            for thing in range(len(plan)):
                for place in track(one[thing], other[thing])[1:]:
                    expected = [s[thing] for s in early].index(place)
                    self.assertEqual(wave_of(plan, one, other, thing, place), expected)

    def test_runs_as_long_as_can_be_and_rising(self):
        several = 0
        for plan, one, other, good in free_pairs(300, 223):
            early, told = early_waves(good, one, other), runs(plan, one, other)
            several += len(told) > len({row[1] for row in told})
            expected = []
            for thing in range(len(plan)):
                gone = [k for k in range(1, len(early)) if early[k][thing] != early[k - 1][thing]]
                for at, k in enumerate(gone):
                    if at == 0 or gone[at - 1] != k - 1:
                        expected.append([k, thing, early[k - 1][thing], None])
                    expected[-1][3] = early[k][thing]
            self.assertEqual(told, tuple(sorted(tuple(row) for row in expected)))
        self.assertGreater(several, 100)

    def test_from_one_to_the_same_one(self):
        for plan, one, other in drawn_pairs(100, 224):
            self.assertEqual(waves(plan, one, one), 0)
            self.assertEqual(runs(plan, one, one), ())
            for many in (0, 1, 7, THIRTY):
                self.assertIs(shows_runs(plan, one, one, many, ()), True)
                self.assertIs(shows_runs(plan, one, one, many, ((1, 0, one[0], one[0]),)), False)
                self.assertIs(shows_runs(plan, one, one, many, ((1, 0, one[0], one[0] + 1),)), False)
            self.assertIs(shows_runs(plan, one, one, 9, ((1, 0, one[0], 9), (2, 0, 9, one[0]))), False)

    def test_lines_of_thirty_figures_where_one_waits_for_another_one(self):
        start, end = (0,) * 12, (THIRTY,) * 12
        for plan in (row_plan(), mirrored(row_plan())):
            for one, other in ((start, end), (end, start)):
                many, rows = self.check_great(plan, one, other)
                self.assertEqual((many, len(rows)), (12 * THIRTY, 12))
        self.assertEqual(wave_of(row_plan(), start, end, 0, 1), 11 * THIRTY + 1)
        self.assertEqual(wave_of(row_plan(), start, end, 5, 10 ** 29), 6 * THIRTY + 10 ** 29)

    def test_lines_of_thirty_figures_that_are_gone_by_turns(self):
        start, end = (0, 0), (THIRTY, THIRTY)
        for first in (0, 10 ** 29, THIRTY - 20):
            for plan in (turns_plan(first=first), mirrored(turns_plan(first=first))):
                for one, other in ((start, end), (end, start)):
                    many, rows = self.check_great(plan, one, other)
                    self.assertTrue(THIRTY + 15 < many < THIRTY + 25, many - THIRTY)
                    self.assertGreater(len(rows), 35)

    def test_great_plans(self):
        waited = 0
        for plan, one, other in great_pairs(40, 225):
            for start, end in ((one, other), (other, one)):
                if way(plan, start, end)[0] == "way":
                    many, rows = self.check_great(plan, start, end)
                    waited += many > max(abs(a - b) for a, b in zip(start, end))
        self.assertGreater(waited, 5)

    def test_at_great_places(self):
        for plan, one, other, good in free_pairs(100, 226):
            ends = [tuple(place * GREAT for place in end) for end in (one, other)]
            if one != other:
                self.check_great(stretched(plan, GREAT), *ends)


class Shown(Checked):
    def test_as_written(self):
        for many, thing in [
            (6, RUNS), (7, RUNS), (6, RUNS[::-1]), (6, ((1, 0, 0, 1), (4, 0, 1, 2), (5, 0, 2, 4), *RUNS[1:2], RUNS[3])),
            (6, ((2, 0, 0, 1), *RUNS[1:])), (6, ((3, 0, 0, 1), *RUNS[1:])), (9, delayed(RUNS, 3, 3)),
            (8, delayed(RUNS, 0, 2)), (THIRTY, delayed(RUNS, 0, THIRTY - 10)),
        ]:
            self.assertIs(shows_runs(PLAN, HERE, THERE, many, thing), True, (many, thing))
        for many, thing in [
            (5, RUNS), (0, RUNS), (-1, RUNS), (6, ()), (6, RUNS[1:]), (6, RUNS[:-1]), (6, RUNS + RUNS[:1]),
            (9, RUNS * 2),
            (9, ((4, 0, 0, 1), *RUNS[1:])), (9, ((0, 0, 0, 1), *RUNS[1:])), (9, (*RUNS[:2], (3, 0, 1, 4), RUNS[3])),
            (9, (*RUNS[:3], (4, 1, 3, 5))), (9, delayed(RUNS, 0, -1)), (9, RUNS + ((9, 0, 4, 4),)),
            (9, RUNS + ((8, 0, 4, 3), (9, 0, 3, 4))), (9, ((1, 2, 0, 1), *RUNS)), (9, ((1, -1, 0, 1), *RUNS)),
            (9, ((1, 0, 0, 2), *RUNS[1:])), (9, ((1, 0, -1, 1), *RUNS[1:])), (9, (*RUNS[:3], (5, 1, 3, 6))),
        ]:
            self.assertIs(shows_runs(PLAN, HERE, THERE, many, thing), False, (many, thing))

    def test_other_ones_that_do_or_do_not(self):
        dice = random.Random(231)
        told = {True: 0, False: 0}
        for plan, one, other, good in free_pairs(150, 231):
            rows, many = runs(plan, one, other), waves(plan, one, other)
            self.assertIs(shows_runs(plan, one, other, many, rows), True)
            for count, thing in changed_runs(rows, many, dice):
                expected = plainly_runs(good, one, other, count, thing)
                told[expected] += 1
                self.assertIs(shows_runs(plan, one, other, count, thing), expected, (plan.rules, one, other, thing))
        self.assertGreater(min(told.values()), 500, told)

    def test_steps_in_drawn_orders(self):
        dice = random.Random(232)
        told = {True: 0, False: 0}
        for plan, one, other, good in free_pairs(150, 232):
            for k in range(6):
                thing = []
                for number in range(len(plan)):
                    wave = 0
                    line = track(one[number], other[number])
                    for a, b in zip(line, line[1:]):
                        wave += dice.choice((1, 1, 2, 3))
                        thing.append((wave, number, a, b))
                many = max([row[0] for row in thing], default=0) - dice.choice((0, 0, 0, 1))
                dice.shuffle(thing)
                expected = plainly_runs(good, one, other, many, tuple(thing))
                told[expected] += 1
                self.assertIs(shows_runs(plan, one, other, many, tuple(thing)), expected)
        self.assertGreater(min(told.values()), 200, told)

    def test_with_something_otherwise_at_any_place_and_depth(self):
        dice = random.Random(233)
        told = {True: 0, False: 0}
        for plan, one, other, good in free_pairs(60, 233):
            rows, many = runs(plan, one, other), waves(plan, one, other)
            for thing in otherwise(rows, dice):
                expected = plainly_runs(good, one, other, many, thing)
                told[expected] += 1
                self.assertIs(shows_runs(plan, one, other, many, thing), expected, (plan.rules, one, other, thing))
        self.assertGreater(min(told.values()), 30, told)

    def test_of_anything(self):
        for thing in [None, [], list(RUNS), [list(row) for row in RUNS], (RUNS,), nested(RUNS[0], 28), Odd(),
                      nested_list(RUNS[0], 28), nested((), 29), *anything()]:
            self.assertIs(shows_runs(PLAN, HERE, THERE, 6, thing), False)
            for at in range(4):
                self.assertIs(shows_runs(PLAN, HERE, THERE, 6, RUNS[:at] + (thing,) + RUNS[at + 1:]), False)
                self.assertIs(shows_runs(PLAN, HERE, THERE, 6, RUNS[:at] + (thing,) + RUNS[at:]), False)
                for k in range(4):
                    row = RUNS[at][:k] + ((thing,),) + RUNS[at][k + 1:]
                    self.assertIs(shows_runs(PLAN, HERE, THERE, 6, RUNS[:at] + (row,) + RUNS[at + 1:]), False)

    def test_truths_lists_and_parts_too_few_or_too_many(self):
        for row in [(True, 0, 0, 1), (1, False, 0, 1), (1, 0, False, 1), (1, 0, 0, True), [1, 0, 0, 1], (1, 0, 0),
                    (1, 0, 0, 1, 1), (1, 0, 0, "1"), (None, 0, 0, 1), (1, 0, Odd(), 1), (Odd(),) * 4]:
            self.assertIs(shows_runs(PLAN, HERE, THERE, 6, (row, *RUNS[1:])), False)

    def test_great_runs(self):
        plan, one, other = row_plan(), (0,) * 12, (THIRTY,) * 12
        rows, many = runs(plan, one, other), waves(plan, one, other)
        self.assertIs(shows_runs(plan, one, other, many, rows[::-1]), True)
        halves = [((w, t, 0, 7), (w + 7, t, 7, THIRTY)) for w, t, here, there in rows]
        self.assertIs(shows_runs(plan, one, other, many, sum(halves, ())), True)
        later = [(w + (11 - t), t, here, there) for w, t, here, there in rows]
        self.assertIs(shows_runs(plan, one, other, many + 11, tuple(later)), True)
        self.assertIs(shows_runs(plan, one, other, many + 10, tuple(later)), False)
        for at in range(12):
            for change in (-1, 1):
                wave, thing, here, there = rows[at]
                otherwise_one = rows[:at] + ((wave + change, thing, here, there),) + rows[at + 1:]
                self.assertIs(shows_runs(plan, one, other, 2 * many, otherwise_one), at == 11 and change == 1)


class Refused(Checked):
    def test_as_written(self):
        ring = self.refused(waves, TIED, (0, 0), (1, 1))
        self.assertEqual(sorted(ring), [(0, 0, 1, 1), (1, 0, 0, 1)])

    def test_by_all_calls_whatever_else_is_handed_in(self):
        refused = 0
        for plan, one, other in drawn_pairs(250, 241):
            if other in reach(good_set(plan), one):
                continue
            refused += 1
            asked = plain_needs(plan, one, other)
            calls = [(waves,), (runs,), (wave_of, 0, other[0]), (wave_of, None, None), (wave_of, -1, "x"),
                     (shows_runs, 0, ()), (shows_runs, 6, RUNS), (shows_runs, None, None), (shows_runs, "x", [Odd()])]
            for call, *more in calls:
                ring = self.refused(call, plan, one, other, *more)
                self.assertTrue(plainly_ring(one, other, asked, ring))
        self.assertGreater(refused, 40)
        for thing in anything():
            self.refused(shows_runs, TIED, (0, 0), (1, 1), 3, thing)
            self.refused(shows_runs, TIED, (0, 0), (1, 1), thing, thing)
            self.refused(wave_of, TIED, (0, 0), (1, 1), thing, thing)

    def test_great_plans(self):
        refused = 0
        for plan, one, other in great_pairs(20, 242):
            if way(plan, one, other)[0] == "knot":
                refused += 1
                for call, *more in [(waves,), (runs,), (wave_of, 0, 0), (shows_runs, 1, ())]:
                    ring = self.refused(call, plan, one, other, *more)
                    self.assertTrue(plainly_ring(one, other, needs(plan, one, other), ring))
        self.assertGreater(refused, 4)


class Ways(Checked):
    """What [2] says of all of them."""

    def test_by_names(self):
        self.assertEqual(waves(other=THERE, one=HERE, plan=PLAN), 6)
        self.assertEqual(wave_of(place=2, thing=0, other=THERE, one=HERE, plan=PLAN), 4)
        self.assertEqual(runs(other=THERE, one=HERE, plan=PLAN), RUNS)
        self.assertIs(shows_runs(thing=RUNS, many=6, other=THERE, one=HERE, plan=PLAN), True)
        self.assertEqual(len(self.refused(waves, other=(1, 1), one=(0, 0), plan=TIED)), 2)

    def test_kinds_and_asked_again(self):
        for plan, one, other, good in free_pairs(60, 251):
            tops, rules = plan.tops, plan.rules
            told = [(waves(p, one, other), runs(p, one, other)) for p in (plan, plan, Plan(tops, rules))]
            self.assertTrue(is_plain(told[0]))
            self.assertEqual(told[:1] * 3, told)
            self.assertEqual((plan.tops, plan.rules), (tops, rules))
        self.assertIs(type(wave_of(PLAN, HERE, THERE, 0, 2)), int)

    def test_what_is_handed_in_stays_as_it_was(self):
        handed = [list(RUNS), tuple(list(row) for row in RUNS), ({"a": [1]},), [[1, 0, 0, 1]]]
        before = copy.deepcopy(handed)
        for thing, many in itertools.product(handed, (0, 6)):
            self.assertIs(shows_runs(PLAN, HERE, THERE, many, thing), False)
        self.assertEqual(handed, before)


if __name__ == "__main__":
    unittest.main()
