"""Promise [19], and [3] (e): deeds from one good standing to any other one, with bolts of what must go at once."""

import copy
import itertools
import random
import unittest

from notbothout.bolts import deeds, shows_deeds
from notbothout.bundles import bundle
from notbothout.middles import far
from notbothout.plans import Plan
from notbothout.standings import is_good
from notbothout.ways import walked
from tests.bound import bound_steps, plainly_deeds, ring_rules, ringed_pairs, steps_in
from tests.plain import Odd, anything, good_ones, is_plain, nested, nested_list, otherwise, small_plans, stretched
from tests.walks import THIRTY, TIED, drawn_pairs, good_set, great_pairs, mirrored, reach, row_plan, turns_plan
from tests.walks import waiting_pairs

GREAT = 10 ** 29
# Both pass from 1 to 3 at once; thing 2 leaves 0 behind them.
PLAN = Plan((4, 4, 2), (
    ((0, "to", 1), (1, "from", 3)), ((1, "to", 1), (0, "from", 3)), ((2, "to", 0), (0, "from", 3)),
))
HERE, THERE = (0, 0, 0), (4, 4, 2)
BOLT = ("bolt", ((0, 1, 3), (1, 1, 3)))
ROW = (("go", 0, 1), ("go", 1, 1), BOLT, ("go", 0, 4), ("go", 1, 4), ("go", 2, 2))


def small_pairs(many, seed):
    """(plan, one, other) of small plans; any two good standings, the same one, too."""
    dice = random.Random(seed)
    yield from [*ringed_pairs(many, seed), *drawn_pairs(many, seed), *waiting_pairs(many // 4, seed)]
    for plan in small_plans(many // 2, seed):
        good = good_ones(plan)
        if good:
            yield plan, dice.choice(good), dice.choice(good)


def bolts_in(row):
    return [deed[1] for deed in row if deed[0] == "bolt"]


def turned_row(row, one):
    """The row gone back, from its end."""
    found, here = [], list(one)
    for deed in row:
        if deed[0] == "go":
            found.append(("go", deed[1], here[deed[1]]))
            here[deed[1]] = deed[2]
        else:
            found.append(("bolt", tuple((thing, there, start) for thing, start, there in deed[1])))
            for thing, start, there in deed[1]:
                here[thing] = there
    return tuple(found[::-1])


def cut_goings(row, one):
    """The row with each going cut to steps."""
    found, here = [], list(one)
    for deed in row:
        if deed[0] == "go":
            way = 1 if deed[2] > here[deed[1]] else -1
            found += [("go", deed[1], k) for k in range(here[deed[1]] + way, deed[2] + way, way)]
            here[deed[1]] = deed[2]
        else:
            found.append(deed)
            for thing, start, there in deed[1]:
                here[thing] = there
    return tuple(found)


def changed_moves(moves, plan, dice):
    """The moves of a bolt with something otherwise."""
    thing = dice.randrange(len(plan))
    yield from [moves[:-1], moves[1:], moves[::-1], moves + moves[:1], ()]
    yield tuple(sorted(moves + ((thing, dice.randrange(4), dice.randrange(4)),)))
    yield tuple((number, there, here) for number, here, there in moves)
    for at, (number, here, there) in enumerate(moves):
        for move in [(number, here, there + 1), (number, here, there - 1), (number, here - 1, there),
                     (number, here + 1, there), (number, here, here), (number + 1, here, there)]:
            yield moves[:at] + (move,) + moves[at + 1:]


def changed_rows(row, plan, one, dice):
    """Rows with something otherwise that may do or not."""
    yield from [cut_goings(row, one), row + row[-1:], row[:-1], row[1:], row[::-1], row + row, turned_row(row, one)]
    yield row + turned_row(row, one) + row
    for at, deed in enumerate(row):
        yield row[:at] + row[at + 1:]
        yield row[:at] + (deed, deed) + row[at + 1:]
        other = dice.randrange(len(row))
        swapped = list(row)
        swapped[at], swapped[other] = swapped[other], swapped[at]
        yield tuple(swapped)
        if deed[0] == "bolt":
            for moves in changed_moves(deed[1], plan, dice):
                yield row[:at] + (("bolt", moves),) + row[at + 1:]
            yield row[:at] + tuple(("go", thing, there) for thing, here, there in deed[1]) + row[at + 1:]
            yield row[:at] + tuple(("bolt", (move,)) for move in deed[1]) + row[at + 1:]
            yield row[:at] + (("bolt", deed[1][:1]), ("bolt", deed[1][1:])) + row[at + 1:]
            yield row[:at] + (deed, turned_row((deed,), one)[0], deed) + row[at + 1:]
        else:
            thing, place = deed[1:]
            for k in (-1, 1):
                yield row[:at] + (("go", thing, place + k), deed) + row[at + 1:]
                yield row[:at] + (("go", thing, place + k),) + row[at + 1:]
            yield row[:at] + (("bolt", ((thing, place - 2, place),)),) + row[at + 1:]
            yield row[:at] + (("bolt", ((thing, one[thing], place),)),) + row[at + 1:]


class Checked(unittest.TestCase):
    def check_great(self, plan, one, other):
        """The row, each going walked as a way, each bolt a whole bundle between good standings."""
        row = deeds(plan, one, other)
        self.assertLessEqual(len(row), 300)
        here, many = one, 0
        for deed in row:
            if deed[0] == "go":
                there = walked(plan, here, (deed[1:],))
            else:
                there = self.behind_bolt(plan, here, deed[1])
            many += far(here, there)
            here = there
        self.assertEqual((here, many), (other, far(one, other)))
        self.assertIs(shows_deeds(plan, one, other, row), True)
        self.assertIs(shows_deeds(plan, other, one, turned_row(row, one)), True)
        return row

    def behind_bolt(self, plan, here, moves):
        self.assertGreaterEqual(sum(abs(a - b) for thing, a, b in moves), 2)
        there = list(here)
        for thing, start, end in moves:
            self.assertEqual(there[thing], start)
            there[thing] = end
        self.assertTrue(is_good(plan, tuple(there)))
        thing, start, end = moves[0]
        told = bundle(plan, thing, min(start, end))
        turned = tuple((number, b, a) for number, a, b in told)
        self.assertEqual(moves, told if end > start else turned)
        return tuple(there)


class Deeds(Checked):
    def test_as_written(self):
        row = deeds(PLAN, HERE, THERE)
        self.assertEqual(bolts_in(row), [BOLT[1]])
        self.assertEqual(deeds(TIED, (0, 0), (1, 1)), (("bolt", ((0, 0, 1), (1, 0, 1))),))
        self.assertEqual(deeds(TIED, (1, 1), (0, 0)), (("bolt", ((0, 1, 0), (1, 1, 0))),))
        self.assertEqual(deeds(Plan((4,)), (1,), (3,)), (("go", 0, 3),))

    def test_two_steps_of_one_thing_in_a_bolt(self):
        gap = Plan((6,), (((0, "to", 1), (0, "from", 4)),))
        self.assertEqual(deeds(gap, (0,), (6,)), (("go", 0, 1), ("bolt", ((0, 1, 4),)), ("go", 0, 6)))
        self.assertEqual(deeds(gap, (6,), (0,)), (("go", 0, 4), ("bolt", ((0, 4, 1),)), ("go", 0, 0)))
        narrow = Plan((2,), (((0, "to", 0), (0, "from", 2)),))
        self.assertEqual(deeds(narrow, (0,), (2,)), (("bolt", ((0, 0, 2),)),))

    def test_one_bolt_that_draws_along_another_one(self):
        # Things 2 and 3 go at once, and only behind things 0 and 1, which go at once, too.
        pairs = ring_rules((1,) * 4, (2, 3), (0, 0), (1, 1)) + ring_rules((1,) * 4, (0, 1), (0, 0), (1, 1))
        plan = Plan((1,) * 4, (*pairs, ((2, "to", 0), (0, "from", 1))))
        first, second = ("bolt", ((0, 0, 1), (1, 0, 1))), ("bolt", ((2, 0, 1), (3, 0, 1)))
        self.assertEqual(deeds(plan, (0,) * 4, (1,) * 4), (first, second))
        self.assertIs(shows_deeds(plan, (0,) * 4, (1,) * 4, (second, first)), False)
        both = ("bolt", first[1] + second[1])
        self.assertIs(shows_deeds(plan, (0,) * 4, (1,) * 4, (both,)), False)

    def test_small_plans_step_by_step_and_bolt_by_bolt(self):
        bolted = 0
        for plan, one, other in small_pairs(300, 331):
            good = good_set(plan)
            row = deeds(plan, one, other)
            self.assertTrue(plainly_deeds(plan, good, one, other, row), (plan.tops, plan.rules, one, other, row))
            self.assertIs(shows_deeds(plan, one, other, row), True)
            bolts = bolts_in(row)
            # No bolt just where plain steps lead there.
            self.assertEqual(bolts == [], other in reach(good, one))
            bolted += len(bolts)
        self.assertGreater(bolted, 200)

    def test_a_bolt_goes_at_once_in_each_row_that_leads_there(self):
        # Whatever goes at once in a row of good standings: none stands between the bolt's steps.
        for plan, one, other in ringed_pairs(150, 332):
            good = good_set(plan)
            for moves in bolts_in(deeds(plan, one, other)):
                for s in good:
                    self.assertEqual(len({self.is_beyond(s, move) for move in moves}), 1)
                steps = steps_in(moves)
                self.assertEqual(sorted(bound_steps(plan, steps[0])), sorted(steps))

    def is_beyond(self, standing, move):
        thing, here, there = move
        self.assertFalse(min(here, there) < standing[thing] < max(here, there))
        return abs(standing[thing] - there) < abs(standing[thing] - here)

    def test_from_one_to_the_same_one(self):
        for plan, one, other in small_pairs(80, 333):
            self.assertEqual(deeds(plan, one, one), ())
            self.assertIs(shows_deeds(plan, one, one, ()), True)
            self.assertIs(shows_deeds(plan, one, one, (("go", 0, one[0]),)), False)
            self.assertIs(shows_deeds(plan, one, other, ()), one == other)

    def test_there_and_back(self):
        for plan, one, other in small_pairs(150, 334):
            there, back = deeds(plan, one, other), deeds(plan, other, one)
            self.assertEqual(len(bolts_in(there)), len(bolts_in(back)))
            self.assertIs(shows_deeds(plan, one, other, turned_row(back, other)), True)
            self.assertIs(shows_deeds(plan, other, one, turned_row(there, one)), True)
            self.assertIs(shows_deeds(plan, one, one, there + back), one == other)

    def test_at_great_places(self):
        bolted = 0
        for plan, one, other in ringed_pairs(100, 335):
            ends = [tuple(place * GREAT for place in end) for end in (one, other)]
            row = self.check_great(stretched(plan, GREAT), *ends)
            self.assertEqual(len(bolts_in(row)), len(bolts_in(deeds(plan, one, other))))
            bolted += len(bolts_in(row))
        self.assertGreater(bolted, 50)

    def test_great_plans(self):
        bolted = 0
        for plan, one, other in great_pairs(30, 336):
            for start, end in ((one, other), (other, one)):
                bolted += len(bolts_in(self.check_great(plan, start, end)))
        self.assertGreater(bolted, 20)
        for plan in (row_plan(), mirrored(row_plan()), turns_plan(), mirrored(turns_plan())):
            ends = (0,) * len(plan), (THIRTY,) * len(plan)
            for one, other in (ends, ends[::-1]):
                self.assertEqual(bolts_in(self.check_great(plan, one, other)), [])

    def test_twelve_things_through_rings_one_behind_the_other(self):
        tops = (THIRTY,) * 12
        one, other = (0,) * 12, tops
        for size in (1, 2, 3, 4, 10, 12):
            rules, k = [], 0
            while len(rules) + size <= 40:
                things = [(k * size + at) % 12 for at in range(size)]
                at = k * 10 ** 28 + 5
                rules += ring_rules(tops, things, [at + t for t in things], [at + 10 ** 20 + t for t in things])
                k += 1
            row = self.check_great(Plan(tops, tuple(rules)), one, other)
            self.assertEqual(len(bolts_in(row)), k)
            self.check_great(mirrored(Plan(tops, tuple(rules))), other, one)

    def test_a_bolt_for_each_of_forty_rules(self):
        rules = [((0, "to", 3 * k), (0, "from", 3 * k + 2)) for k in range(40)]
        row = self.check_great(Plan((200,), tuple(rules)), (0,), (200,))
        self.assertEqual((len(row), len(bolts_in(row))), (80, 40))


class Shown(unittest.TestCase):
    def test_as_written(self):
        cut = (("go", 1, 1), ("go", 0, 1), BOLT, ("go", 2, 1), ("go", 0, 4), ("go", 1, 4), ("go", 2, 2))
        for row in (ROW, cut, ROW[:3] + ROW[:2:-1]):
            self.assertIs(shows_deeds(PLAN, HERE, THERE, row), True)
        for row in [
            ROW[1:], ROW[:2] + ROW[3:], ROW[:-1], ROW + ROW[-1:], ROW[::-1], (ROW[5], *ROW[:5]), ROW * 2,
            (("bolt", ((0, 0, 1),)), *ROW[1:]), (("bolt", ((0, 0, 1), (1, 0, 1))), *ROW[2:]),
            (*ROW[:2], ("go", 0, 3), ("go", 1, 3), *ROW[3:]), (*ROW[:2], ("bolt", BOLT[1][::-1]), *ROW[3:]),
            (*ROW[:2], ("bolt", BOLT[1][:1]), *ROW[3:]), (*ROW[:2], ("bolt", (*BOLT[1], (2, 0, 1))), *ROW[3:]),
            (*ROW[:2], ("bolt", ((0, 1, 4), (1, 1, 3))), ROW[4:]), (*ROW[:5], ("bolt", ((2, 0, 2),))),
            (*ROW[:2], ("bolt", (*BOLT[1], (2, 0, 0))), *ROW[3:]), (*ROW[:2], ("bolt", BOLT[1] * 2), *ROW[3:]),
            (("bolt", ((0, 0, 4), (1, 0, 4), (2, 0, 2))),), (*ROW, ("go", 2, 1), ("go", 2, 2)), (*ROW, ("bolt", ())),
            (("bolt", ((0, 0, 3), (1, 0, 3))), *ROW[3:]), (*ROW, ("go", 2, 2)), (*ROW, ("go", 2, 3)),
        ]:
            self.assertIs(shows_deeds(PLAN, HERE, THERE, row), False, row)

    def test_other_ones_that_do_or_do_not(self):
        dice = random.Random(341)
        told = {True: 0, False: 0}
        for plan, one, other in [*ringed_pairs(120, 341), *drawn_pairs(60, 341)]:
            good, row = good_set(plan), deeds(plan, one, other)
            for thing in changed_rows(row, plan, one, dice):
                expected = plainly_deeds(plan, good, one, other, thing)
                told[expected] += 1
                self.assertIs(shows_deeds(plan, one, other, thing), expected, (plan.tops, plan.rules, one, other, thing))
        self.assertGreater(min(told.values()), 300, told)

    def test_rows_to_any_other_standing(self):
        dice = random.Random(342)
        for plan, one, other in small_pairs(80, 342):
            row, good = deeds(plan, one, other), good_ones(plan)
            for end in dice.sample(good, min(len(good), 6)):
                self.assertIs(shows_deeds(plan, one, end, row), end == other)
                self.assertIs(shows_deeds(plan, end, other, row), plainly_deeds(plan, set(good), end, other, row))

    def test_to_and_fro(self):
        free = Plan((4, 4))
        self.assertIs(shows_deeds(free, (0, 0), (2, 0), (("go", 0, 3), ("go", 0, 2))), False)
        self.assertIs(shows_deeds(free, (0, 0), (2, 0), (("go", 1, 1), ("go", 0, 2), ("go", 1, 0))), False)
        self.assertIs(shows_deeds(free, (0, 0), (0, 0), (("go", 0, 1), ("go", 0, 0))), False)
        fro = ("bolt", ((0, 1, 0), (1, 1, 0)))
        bolt = ("bolt", ((0, 0, 1), (1, 0, 1)))
        self.assertIs(shows_deeds(TIED, (0, 0), (1, 1), (bolt,)), True)
        self.assertIs(shows_deeds(TIED, (0, 0), (1, 1), (bolt, fro, bolt)), False)
        self.assertIs(shows_deeds(TIED, (0, 0), (0, 0), (bolt, fro)), False)

    def test_with_something_otherwise_at_any_place_and_depth(self):
        dice = random.Random(343)
        told = {True: 0, False: 0}
        for plan, one, other in ringed_pairs(50, 343):
            good, row = good_set(plan), deeds(plan, one, other)
            for thing in otherwise(row, dice):
                expected = plainly_deeds(plan, good, one, other, thing)
                told[expected] += 1
                self.assertIs(shows_deeds(plan, one, other, thing), expected, (plan.rules, one, other, thing))
        self.assertGreater(told[False], 1000, told)

    def test_of_anything(self):
        for thing in [None, [], list(ROW), [list(deed) for deed in ROW], (ROW,), nested(ROW[0], 28), Odd(),
                      nested_list(ROW[0], 28), nested((), 29), *anything()]:
            self.assertIs(shows_deeds(PLAN, HERE, THERE, thing), False)
            for at in range(6):
                self.assertIs(shows_deeds(PLAN, HERE, THERE, ROW[:at] + (thing,) + ROW[at + 1:]), False)
                self.assertIs(shows_deeds(PLAN, HERE, THERE, ROW[:at] + (thing,) + ROW[at:]), False)
                for k in range(len(ROW[at])):
                    deed = ROW[at][:k] + ((thing,),) + ROW[at][k + 1:]
                    self.assertIs(shows_deeds(PLAN, HERE, THERE, ROW[:at] + (deed,) + ROW[at + 1:]), False)
            for k in range(2):
                moves = BOLT[1][:k] + (thing,) + BOLT[1][k + 1:]
                self.assertIs(shows_deeds(PLAN, HERE, THERE, (*ROW[:2], ("bolt", moves), *ROW[3:])), False)
            for k in range(3):
                move = BOLT[1][0][:k] + ((thing,),) + BOLT[1][0][k + 1:]
                bolt = ("bolt", (move, BOLT[1][1]))
                self.assertIs(shows_deeds(PLAN, HERE, THERE, (*ROW[:2], bolt, *ROW[3:])), False)

    def test_truths_lists_texts_and_parts_too_few_or_too_many(self):
        for deed in [("go", False, 1), ("go", 0, True), ["go", 0, 1], ("go", 0), ("go", 0, 1, 1), ("go", (0, 1)),
                     ("Go", 0, 1), ("go ", 0, 1), (b"go", 0, 1), (None, 0, 1), (Odd(), 0, 1), ("go", 0, "1"),
                     ("go", Odd(), 1), ("go", 0, Odd()), ("bolt", 0, 1), ("go", 3, 1), ("go", -1, 1), ("go", 0, -1)]:
            self.assertIs(shows_deeds(PLAN, HERE, THERE, (deed, *ROW[1:])), False, deed)
        bolt = ((0, 1, 3), (1, 1, 3))
        for deed in [("bolt", list(bolt)), ["bolt", bolt], ("bolt", *bolt), ("bolt",), ("go", bolt), ("bolt", bolt, ()),
                     ("bolt", ((False, 1, 3), bolt[1])), ("bolt", ((0, True, 3), bolt[1])), ("bolt", (bolt,)),
                     ("bolt", ([0, 1, 3], bolt[1])), (Odd(), bolt), ("bolt", Odd()), ("bolt", (Odd(), bolt[1])),
                     ("bolt", ((0, 1, 3, 3), bolt[1])), ("bolt", ((0, 1), bolt[1])), ("bolt", None)]:
            self.assertIs(shows_deeds(PLAN, HERE, THERE, (*ROW[:2], deed, *ROW[3:])), False, deed)

    def test_great_rows_of_however_many_deeds(self):
        plan = Plan((THIRTY, THIRTY))
        row = tuple(("go", k % 2, k // 2 + 1) for k in range(1000)) + (("go", 0, THIRTY), ("go", 1, THIRTY))
        self.assertIs(shows_deeds(plan, (0, 0), (THIRTY, THIRTY), row), True)
        self.assertIs(shows_deeds(plan, (0, 0), (THIRTY, THIRTY), row[1:]), True)
        self.assertIs(shows_deeds(plan, (0, 0), (THIRTY, THIRTY), row[:-1]), False)
        self.assertIs(shows_deeds(plan, (0, 0), (THIRTY, THIRTY), row[:1] + row), False)

    def test_great_bolts(self):
        for plan, one, other in great_pairs(12, 344):
            row = deeds(plan, one, other)
            for at, deed in enumerate(row):
                if deed[0] == "bolt":
                    for change, k in itertools.product((-1, 1), (1, 2)):
                        move = deed[1][0][:k] + (deed[1][0][k] + change,) + deed[1][0][k + 1:]
                        otherwise_one = row[:at] + (("bolt", (move, *deed[1][1:])),) + row[at + 1:]
                        self.assertIs(shows_deeds(plan, one, other, otherwise_one), False)


class Ways(unittest.TestCase):
    """What [2] says of all of them."""

    def test_by_names(self):
        self.assertEqual(bolts_in(deeds(other=THERE, one=HERE, plan=PLAN)), [BOLT[1]])
        self.assertIs(shows_deeds(thing=ROW, other=THERE, one=HERE, plan=PLAN), True)

    def test_kinds_and_asked_again(self):
        for plan, one, other in small_pairs(60, 351):
            tops, rules = plan.tops, plan.rules
            told = [deeds(p, one, other) for p in (plan, plan, Plan(tops, rules))]
            self.assertTrue(is_plain(told[0]))
            self.assertEqual(told[:1] * 3, told)
            self.assertEqual((plan.tops, plan.rules), (tops, rules))

    def test_what_is_handed_in_stays_as_it_was(self):
        handed = [list(ROW), tuple(list(deed) for deed in ROW), ({"a": [1]},), (*ROW[:2], ("bolt", [[0, 1, 3]]))]
        before = copy.deepcopy(handed)
        for thing in handed:
            self.assertIs(shows_deeds(PLAN, HERE, THERE, thing), False)
        self.assertEqual(handed, before)


if __name__ == "__main__":
    unittest.main()
