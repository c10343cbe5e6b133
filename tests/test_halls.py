"""Promises [23], [24] and [25]: halls, their deeds and refusals, full beats, and all that is asked."""

import copy
import random
import unittest

from notbothout.errors import Broken, NoLetter, NoPlan, NoRule, NoStanding, NoThing
from notbothout.going import door
from notbothout.halls import MOST, Hall
from notbothout.plans import Plan
from tests.bound import ringed_pairs
from tests.plain import Odd, anything, good_ones, is_plain, nested, nested_list, plainly_in, sides_of
from tests.plain_hall import PlainHall, do, drawn_deed, everything, odd_deed, plain_door
from tests.plain_hand import kept_plans
from tests.walks import THIRTY, drawn_pairs, good_set, row_plan, turns_plan

# Thing 0 beyond 1 waits for thing 1 at 3; 0 isn't at 3; 2 goes beyond 0 only where 1 is at 4 or nearer.
PLAN = Plan((5, 5, 2), (
    ((0, "to", 1), (1, "from", 3)), ((0, "to", 2), (0, "from", 4)), ((1, "to", 4), (2, "to", 0)),
))
HERE, THERE = (0, 0, 0), (2, 4, 2)
RULE = ((0, "to", 4), (2, "from", 1))


class Checked(unittest.TestCase):
    def refused(self, kind, call, *told, **named):
        """The value of the refusal, which is of that class alone."""
        with self.assertRaises(kind) as caught:
            call(*told, **named)
        self.assertIs(type(caught.exception), kind)
        (value,) = vars(caught.exception).values()
        return value

    def unchanged(self, hall, kind, value, call, *told, **named):
        """Refused so, and the hall is as ahead."""
        before = everything(hall)
        found = self.refused(kind, call, *told, **named)
        self.assertTrue(found is value or found == value, (found, value))
        self.assertEqual(everything(hall), before)


class Beginning(Checked):
    def test_as_written(self):
        hall = Hall(PLAN, HERE)
        self.assertEqual(hall.plan(), PLAN)
        self.assertEqual(hall.numbered(), tuple(enumerate(PLAN.rules)))
        self.assertEqual((hall.standing(), hall.heard(), hall.gone(), len(hall)), (HERE, (None,) * 3, 0, 0))
        self.assertEqual((hall.under_way(), hall.waiting()), ((), ()))
        # Rule 0's second side is out: thing 1 has its leave; rule 1 is thing 0's own.
        self.assertEqual(hall.leaves(), ((0, 1), (2, 1)))
        self.assertEqual(hall.counts(), ((0, 1), (2, 0)))
        self.assertEqual(Hall(PLAN, (2, 3, 0)).counts(), ((0, 0), (2, 0)))
        self.assertEqual(Hall(PLAN, (0, 0, 1)).counts(), ((0, 1), (2, 1)))

    def test_who_has_which_leave(self):
        for plan, standing, dice in kept_plans(150, 401):
            hall = Hall(plan, standing)
            shared = [(k, rule) for k, rule in enumerate(plan.rules) if rule[0][0] != rule[1][0]]
            counts = [0 if plainly_in(rule[1], standing) else 1 for k, rule in shared]
            self.assertEqual(hall.counts(), tuple((k, count) for (k, rule), count in zip(shared, counts)))
            self.assertEqual(hall.leaves(), tuple((k, rule[count][0]) for (k, rule), count in zip(shared, counts)))
            # Whoever has its side out has the leave.
            for (k, rule), (number, thing) in zip(shared, hall.leaves()):
                self.assertTrue(all(plainly_in(side, standing) for side in rule if side[0] != thing))

    def test_one_and_twelve_things_none_and_forty_rules(self):
        self.assertEqual(everything(Hall(Plan((0,)), (0,)))[1:], ((), (0,), (None,), (), (), (), (), 0, 0))
        great = Plan((THIRTY,) * 12, row_plan().rules * 3 + row_plan().rules[:7])
        hall = Hall(great, (0,) * 12)
        self.assertEqual((len(hall.numbered()), len(hall.leaves()), hall.standing()), (40, 40, (0,) * 12))

    def test_no_plan_of_anything(self):
        for thing in [None, (5, 5), PLAN.tops, str(PLAN), [PLAN], Plan, Odd(), Hall(PLAN, HERE), *anything()]:
            if not isinstance(thing, Plan):
                for standing in (HERE, (9, 9), None, thing):
                    self.assertEqual(self.refused(NoPlan, Hall, thing, standing), "plan")

    def test_no_standing_of_anything(self):
        for thing in [(0, 0), (0, 0, 0, 0), (6, 0, 0), (0, 0, -1), [0, 0, 0], (True, 0, 0), "0 0 0", None, Odd(),
                      (0, 0, Odd()), nested(HERE, 28), nested_list(HERE, 28), (3, 0), *anything()]:
            self.assertIs(self.refused(NoStanding, Hall, PLAN, thing), thing)

    def test_broken(self):
        self.assertEqual(self.refused(Broken, Hall, PLAN, (2, 0, 0)), (0,))
        self.assertEqual(self.refused(Broken, Hall, PLAN, (3, 0, 0)), (0, 1))
        self.assertEqual(self.refused(Broken, Hall, PLAN, (3, 5, 1)), (1, 2))
        twice = Plan((2, 2), (((0, "to", 0), (1, "to", 0)),) * 3)
        self.assertEqual(self.refused(Broken, Hall, twice, (1, 1)), (0, 1, 2))


class Deeds(Checked):
    def test_as_written(self):
        hall = Hall(PLAN, HERE)
        wish = (1, THERE)
        self.assertEqual(hall.tell(THERE), 1)
        self.assertEqual(hall.under_way(), ((0, 0, ("word", wish)), (1, 1, ("word", wish)), (2, 2, ("word", wish))))
        self.assertEqual(hall.come(0), 0)
        self.assertEqual((hall.heard(), len(hall.under_way())), ((1, None, None), 2))
        self.assertEqual((hall.stride(0), hall.standing(), hall.gone()), (1, (1, 0, 0), 1))
        self.assertEqual(hall.waiting(), ((0, 0),))
        self.assertEqual(hall.beat(0), 2)
        self.assertEqual(hall.under_way()[2:], ((3, 1, ("ask", 0, 1, wish)), (4, 1, ("word", wish))))
        self.assertEqual(hall.double(3), 5)
        self.assertIsNone(hall.lose(1))
        self.assertEqual(hall.come(3), 0)
        self.assertEqual(hall.heard(), (1, 1, None))
        self.assertEqual((hall.stride(1), hall.standing()), (4, (1, 4, 0)))
        self.assertEqual(hall.come(5), 1)
        self.assertEqual(hall.leaves(), ((0, None), (2, 1)))
        self.assertEqual(hall.counts(), ((0, 2), (2, 0)))
        self.assertEqual(hall.under_way()[-1], (6, 0, ("leave", 0, 2, wish)))
        self.assertEqual(hall.come(6), 0)
        self.assertEqual(hall.leaves(), ((0, 0), (2, 1)))
        self.assertEqual((hall.stride(0), hall.standing(), hall.gone()), (1, (2, 4, 0), 6))
        self.assertEqual(len(hall), 11)

    def test_against_a_plain_hall(self):
        odd = anything()
        told = {}
        for plan, standing, dice in kept_plans(130, 402):
            hall, plain = Hall(plan, standing), PlainHall(plan, standing)
            for k in range(80):
                good = good_ones(plain.plan())
                deed = drawn_deed(plain, good, dice) if dice.randrange(5) else odd_deed(plain, good, dice, odd)
                self.same(do(hall, deed), do(plain, deed), deed)
                self.assertEqual(everything(hall), everything(plain), deed)
                told[deed[0]] = told.get(deed[0], 0) + 1
        self.assertEqual(len(told), 11)
        self.assertGreater(min(told.values()), 100, told)

    def same(self, answer, expected, deed):
        """The same told, or the same refusal with the very value."""
        self.assertEqual(answer[0], expected[0], deed)
        if answer[0] == "told":
            self.assertEqual(answer, expected, deed)
            self.assertIs(type(answer[1]), type(expected[1]), deed)
        else:
            self.assertIs(answer[1], expected[1], deed)
            for value, other in zip(answer[2], expected[2]):
                self.assertTrue(value is other or value == other, deed)

    def test_tell_to_some_and_to_all(self):
        for hands, things in [(None, (0, 1, 2)), ((0, 1, 2), (0, 1, 2)), ((1,), (1,)), ((0, 2), (0, 2))]:
            hall = Hall(PLAN, HERE)
            self.assertEqual(hall.tell(HERE, hands=hands), 1)
            self.assertEqual(hall.under_way(), tuple((k, to, ("word", (1, HERE))) for k, to in enumerate(things)))
            self.assertEqual(hall.tell(THERE, hands=(2,)), 2)
            self.assertEqual(hall.under_way()[-1], (len(things), 2, ("word", (2, THERE))))

    def test_tell_refused_in_its_order(self):
        hall = Hall(PLAN, HERE)
        hall.tell(THERE, hands=(1,))
        bad = [(), (1, 0), (0, 0), (3,), (-1,), (0, 3), (True,), [0], 0, "0", (0, "1"), (None,), ((0,),), Odd(),
               (Odd(),), nested(0, 29), *[thing for thing in anything() if thing is not None]]
        for hands in bad:
            self.unchanged(hall, NoThing, hands, hall.tell, THERE, hands=hands)
            self.unchanged(hall, Broken, (0,), hall.tell, (2, 0, 0), hands=hands)
            self.unchanged(hall, NoStanding, (9, 9, 9), hall.tell, (9, 9, 9), hands=hands)
        for goal in [None, (0, 0), [0, 0, 0], (0, 0, True), Odd(), *anything()]:
            self.unchanged(hall, NoStanding, goal, hall.tell, goal)
            self.unchanged(hall, NoStanding, goal, hall.rest, goal)
        self.assertEqual(hall.tell(THERE), 2)

    def test_no_thing_of_anything(self):
        hall = Hall(PLAN, HERE)
        hall.settle()
        for thing in [3, -1, True, False, "0", (0,), [0], None, 10 ** 59, Odd(), *anything()]:
            if type(thing) is not int or thing not in range(3):
                self.unchanged(hall, NoThing, thing, hall.beat, thing)
                self.unchanged(hall, NoThing, thing, hall.stride, thing)

    def test_no_letter_of_anything(self):
        hall = Hall(PLAN, HERE)
        hall.tell(THERE)
        hall.come(1)
        for mark in [1, 3, -1, True, False, "0", (0,), [0], None, 10 ** 59, Odd(), *anything()]:
            if type(mark) is not int or mark not in (0, 2):
                for call in (hall.come, hall.lose, hall.double):
                    self.unchanged(hall, NoLetter, mark, call, mark)
        self.assertEqual(hall.double(2), 3)
        self.assertIsNone(hall.lose(3))
        self.unchanged(hall, NoLetter, 3, hall.come, 3)
        self.assertEqual(hall.double(2), 4)


class Rules(Checked):
    def test_put_and_drop(self):
        hall = Hall(PLAN, HERE)
        self.assertEqual(hall.put(RULE), 3)
        self.assertEqual(hall.plan(), Plan(PLAN.tops, (*PLAN.rules, RULE)))
        # Its second side is out.
        self.assertEqual(hall.counts()[-1], (3, 1))
        self.assertEqual(hall.leaves()[-1], (3, 2))
        self.assertIsNone(hall.drop(1))
        self.assertEqual(hall.numbered(), ((0, PLAN.rules[0]), (2, PLAN.rules[2]), (3, RULE)))
        self.assertEqual(hall.plan().rules, (PLAN.rules[0], PLAN.rules[2], RULE))
        self.assertIsNone(hall.drop(3))
        self.assertEqual(hall.put(((0, "to", 5), (0, "to", 0))), 4)
        self.assertEqual([number for number, rule in hall.numbered()], [0, 2, 4])
        self.assertEqual([number for number, thing in hall.leaves()], [0, 2])

    def test_the_first_number_where_there_was_no_rule(self):
        hall = Hall(Plan((2, 2)), (0, 0))
        self.assertEqual(hall.put(((0, "to", 0), (1, "from", 1))), 0)
        hall.drop(0)
        self.assertEqual(hall.plan(), Plan((2, 2)))
        self.assertEqual(hall.put(((0, "to", 0), (1, "from", 1))), 1)
        hall.back()
        hall.back()
        hall.back()
        self.assertEqual(hall.put(((0, "to", 1), (1, "from", 1))), 0)

    def test_rules_are_kept_from_then_on(self):
        hall = Hall(Plan((3, 3)), (0, 0))
        hall.tell((3, 3))
        hall.put(((0, "to", 1), (1, "from", 2)))
        hall.put(((1, "to", 0), (1, "from", 2)))
        self.assertEqual(hall.rest((3, 3)), (1, 0))
        hall.settle()
        self.assertEqual((hall.standing(), hall.waiting()), ((1, 0), ((0, 0),)))
        hall.drop(1)
        hall.settle()
        self.assertEqual(hall.standing(), (3, 3))

    def test_no_rule_of_anything(self):
        hall = Hall(PLAN, HERE)
        hall.drop(1)
        bad = [(RULE[0],), (*RULE, RULE[0]), list(RULE), ((0, "to", 6), RULE[1]), ((3, "to", 0), RULE[1]), RULE[0],
               ((0, "on", 1), RULE[1]), ((0, "to", True), RULE[1]), (RULE[0], list(RULE[1])), "0 to 4 / 2 from 1",
               None, (Odd(), Odd()), nested(RULE, 20), *anything()]
        for thing in bad:
            self.unchanged(hall, NoRule, thing, hall.put, thing)
        for number in [1, 3, -1, True, False, "0", (0,), [0], None, Odd(), 10 ** 59, *anything()]:
            if type(number) is not int or number not in (0, 2):
                self.unchanged(hall, NoRule, number, hall.drop, number)

    def test_broken_by_the_number_that_it_would_have(self):
        hall = Hall(PLAN, HERE)
        self.unchanged(hall, Broken, (3,), hall.put, ((0, "from", 1), (1, "from", 1)))
        hall.put(RULE)
        hall.drop(3)
        self.unchanged(hall, Broken, (4,), hall.put, ((0, "from", 1), (1, "from", 1)))
        hall.back()
        hall.back()
        self.unchanged(hall, Broken, (3,), hall.put, ((0, "from", 1), (0, "from", 1)))

    def test_goals_broken_by_the_numbers_of_the_rules_as_they_are(self):
        hall = Hall(PLAN, HERE)
        hall.drop(0)
        hall.put(((0, "to", 2), (1, "from", 2)))
        for call in (hall.tell, hall.rest):
            self.unchanged(hall, Broken, (1, 3), call, (3, 0, 0))
            self.unchanged(hall, Broken, (1, 2), call, (3, 5, 1))
        hall.drop(1)
        self.assertEqual(hall.rest((2, 0, 0)), (2, 0, 0))
        hall.drop(3)
        self.assertEqual(hall.tell((5, 0, 0)), 1)

    def test_the_forty_first_rule(self):
        hall = Hall(Plan((2, 2)), (0, 0))
        rule = ((0, "to", 0), (1, "from", 1))
        for number in range(40):
            self.assertEqual(hall.put(rule), number)
        self.unchanged(hall, NoRule, rule, hall.put, rule)
        broken = ((0, "from", 1), (1, "from", 1))
        self.unchanged(hall, NoRule, broken, hall.put, broken)
        hall.drop(7)
        self.unchanged(hall, Broken, (40,), hall.put, broken)
        self.assertEqual(hall.put(rule), 40)
        self.unchanged(hall, NoRule, rule, hall.put, rule)

    def test_letters_of_a_dropped_rule_come_as_any(self):
        plan = Plan((3, 3), (((0, "to", 0), (1, "from", 1)),))
        hall = Hall(plan, (0, 1))
        hall.tell((3, 3), hands=(1,))
        hall.come(0)
        hall.beat(1)
        self.assertEqual(hall.under_way(), ((1, 0, ("word", (1, (3, 3)))),))
        hall.tell((2, 2), hands=(0,))
        hall.come(2)
        hall.put(((1, "to", 1), (0, "from", 1)))
        hall.beat(0)
        hall.beat(1)
        hall.drop(0)
        hall.drop(1)
        letters = hall.under_way()
        self.assertGreaterEqual(len(letters), 3)
        for mark, to, letter in letters:
            self.assertEqual(hall.come(mark), 0)
        self.assertEqual((hall.heard(), hall.under_way(), hall.leaves()), ((2, 2), (), ()))


class FullBeats(Checked):
    def test_as_written(self):
        hall = Hall(PLAN, HERE)
        self.assertIs(hall.full_beat(), False)
        hall.tell(THERE)
        self.assertIs(hall.full_beat(), True)
        self.assertEqual((hall.standing(), hall.heard(), hall.under_way()), ((1, 4, 0), (1, 1, 1), ()))
        self.assertEqual(hall.waiting(), ((0, 0), (2, 2)))
        self.assertIs(hall.full_beat(), True)
        self.assertEqual((hall.standing(), hall.waiting()), (THERE, ()))
        self.assertIs(hall.full_beat(), False)
        self.assertEqual((len(hall), hall.gone()), (5, 8))

    def test_a_wish_taken_alone_is_a_change(self):
        hall = Hall(PLAN, HERE)
        hall.tell(HERE)
        self.assertIs(hall.full_beat(), True)
        self.assertIs(hall.full_beat(), False)

    def test_a_count_changed_alone_is_a_change(self):
        # Thing 1 has the leave, and stays; the first beat of 0 brings it the leave, but its own rule holds it.
        plan = Plan((3, 3), (((0, "to", 0), (1, "from", 1)), ((0, "to", 0), (0, "from", 2))))
        hall = Hall(Plan((3, 3), plan.rules[:1]), (0, 1))
        hall.tell((0, 0))
        hall.settle()
        hall.put(plan.rules[1])
        self.assertEqual(hall.leaves(), ((0, 1),))
        hall.tell((2, 1))
        told = [hall.full_beat() for k in range(4)]
        self.assertEqual(told, [True, True, False, False])
        self.assertEqual((hall.standing(), hall.counts()), ((0, 1), ((0, 2),)))

    def test_settle_against_full_beats_one_by_one(self):
        for plan, standing, dice in kept_plans(120, 411):
            one, two = Hall(plan, standing), Hall(plan, standing)
            good = good_ones(plan)
            for k in range(3):
                deeds = [drawn_deed(one, good, dice) for j in range(8)] + [("tell", dice.choice(good), None)]
                for deed in deeds:
                    if deed[0] not in ("put", "drop"):
                        do(one, deed)
                        do(two, deed)
                most = dice.choice((0, 1, 2, 3, 60, 61, 1000))
                many, changed = 0, True
                while changed and many < most:
                    changed = two.full_beat()
                    many += 1
                    self.assertEqual(two.under_way(), ())
                before = len(one)
                self.assertEqual(one.settle(most=most), many)
                self.assertEqual(len(one), before + 1)
                self.assertEqual(everything(one)[:-1], everything(two)[:-1])

    def test_settle_with_its_own_most_and_with_none(self):
        self.assertEqual(MOST, 60)
        plan = turns_plan()
        hall = Hall(plan, (0, 0))
        hall.tell((THIRTY, THIRTY))
        before = everything(hall)[:-1]
        self.assertEqual(hall.settle(most=0), 0)
        self.assertEqual((everything(hall)[:-1], len(hall)), (before, 2))
        self.assertEqual(hall.settle(most=5), 5)
        many = hall.settle()
        self.assertTrue(1 < many < 60)
        self.assertEqual((hall.settle(), hall.standing()), (1, (THIRTY, THIRTY)))

    def test_settle_stops_at_its_most_and_goes_on(self):
        self.assertEqual(Hall.settle.__kwdefaults__, {"most": MOST})
        hall = Hall(turns_plan(), (0, 0))
        hall.tell((THIRTY, THIRTY))
        self.assertEqual([hall.settle(most=20), hall.settle(most=20), hall.settle(most=20), len(hall)], [20, 20, 2, 4])
        self.assertEqual(hall.standing(), (THIRTY, THIRTY))


class Asked(Checked):
    def test_rest_against_all_steps(self):
        for plan, standing, dice in kept_plans(100, 421):
            hall, good = Hall(plan, standing), good_set(plan)
            for goal in dice.sample(sorted(good), min(len(good), 5)):
                self.assertEqual(hall.rest(goal), plain_door(good, standing, goal))
                self.assertEqual(hall.rest(goal), door(plan, standing, goal))
        for plan, one, other in [*drawn_pairs(100, 422), *ringed_pairs(60, 423)]:
            self.assertEqual(Hall(plan, one).rest(other), plain_door(good_set(plan), one, other))

    def test_rest_by_the_rules_and_the_standing_as_they_are(self):
        hall = Hall(Plan((3, 3)), (0, 0))
        self.assertEqual(hall.rest((3, 0)), (3, 0))
        hall.put(((0, "to", 1), (0, "from", 3)))
        self.assertEqual(hall.rest((3, 0)), (1, 0))
        hall.tell((1, 3))
        hall.settle()
        self.assertEqual(hall.rest((3, 0)), (1, 0))
        hall.drop(0)
        self.assertEqual(hall.rest((3, 0)), (3, 0))

    def test_asking_is_no_deed(self):
        hall = Hall(PLAN, HERE)
        hall.tell(THERE)
        before = everything(hall)
        hall.rest(THERE)
        self.assertEqual(everything(hall), before)
        self.assertEqual(len(hall), 1)

    def test_gone_counts_to_and_fro(self):
        hall = Hall(Plan((THIRTY,)), (0,))
        for goal in ((THIRTY,), (0,), (5,)):
            hall.tell(goal)
            hall.settle()
        self.assertEqual(hall.gone(), 2 * THIRTY + 5)

    def test_marks_rise_and_none_is_given_twice(self):
        dice = random.Random(424)
        hall = Hall(PLAN, HERE)
        seen = []
        for k in range(60):
            do(hall, drawn_deed(hall, [HERE, THERE], dice))
            marks = [row[0] for row in hall.under_way()]
            self.assertEqual(marks, sorted(marks))
            fresh = [mark for mark in marks if mark not in seen]
            self.assertTrue(all(mark > max(seen, default=-1) for mark in fresh))
            seen += fresh


class Ways(Checked):
    """What [2] says of halls."""

    def test_by_names(self):
        hall = Hall(standing=HERE, plan=PLAN)
        self.assertEqual(hall.tell(goal=THERE, hands=(0, 1)), 1)
        self.assertEqual(hall.come(mark=0), 0)
        self.assertEqual(hall.double(mark=1), 2)
        self.assertIsNone(hall.lose(mark=1))
        self.assertEqual(hall.beat(thing=0), 1)
        self.assertEqual(hall.stride(thing=0), 1)
        self.assertEqual(hall.put(rule=RULE), 3)
        self.assertIsNone(hall.drop(number=3))
        self.assertEqual(hall.rest(goal=THERE), THERE)
        self.assertEqual(hall.settle(most=1), 1)
        self.assertEqual(hall.trial(deeds=(), ask=len), 9)

    def test_behind_a_star_by_names_alone(self):
        hall = Hall(PLAN, HERE)
        with self.assertRaises(TypeError):
            hall.tell(THERE, (0,))
        with self.assertRaises(TypeError):
            hall.settle(3)
        self.assertEqual(len(hall), 0)

    def test_kinds(self):
        dice = random.Random(431)
        for plan, standing, other in kept_plans(30, 431):
            hall, good = Hall(plan, standing), good_ones(plan)
            for k in range(25):
                deed = drawn_deed(hall, good, dice)
                answer = do(hall, deed)
                if answer[0] == "told":
                    self.assertIs(type(answer[1]), type(None) if deed[0] in ("lose", "drop") else int)
            self.assertIs(type(hall.full_beat()), bool)
            self.assertIs(type(hall.settle()), int)
            self.assertIs(type(hall.plan()), Plan)
            self.assertTrue(is_plain(everything(hall)[1:]))
            self.assertIs(type(len(hall)), int)

    def test_two_halls_beside_each_other(self):
        one, two = Hall(PLAN, HERE), Hall(PLAN, HERE)
        fresh = everything(two)
        one.tell(THERE)
        one.settle()
        one.put(RULE)
        one.drop(0)
        self.assertEqual(everything(two), fresh)
        two.tell(HERE)
        self.assertEqual((len(one), len(two)), (4, 1))
        self.assertEqual(PLAN.rules[0], ((0, "to", 1), (1, "from", 3)))

    def test_what_is_handed_in_stays_as_it_was(self):
        hall = Hall(PLAN, HERE)
        handed = [[0, 0, 0], {"a": [1]}, ([0], [1]), [[(0, "to", 4)], [1]]]
        before = copy.deepcopy(handed)
        for thing in handed:
            self.refused(NoStanding, hall.tell, thing)
            self.refused(NoThing, hall.tell, THERE, hands=thing)
            self.refused(NoRule, hall.put, thing)
            self.refused(NoLetter, hall.come, thing)
        self.assertEqual(handed, before)

    def test_each_method_stands_in_the_class_itself(self):
        names = ("tell beat stride come lose double put drop full_beat settle plan numbered standing heard leaves counts "
                 "under_way waiting rest gone back trial __init__ __len__")
        for name in names.split():
            self.assertIn(name, vars(Hall))

    def test_all_sides_as_rules_of_a_small_plan(self):
        for first in sides_of((1, 1)):
            for second in sides_of((1, 1)):
                hall = Hall(Plan((1, 1)), (0, 1))
                kept = plainly_in(first, (0, 1)) or plainly_in(second, (0, 1))
                if kept:
                    self.assertEqual(hall.put((first, second)), 0)
                else:
                    self.unchanged(hall, Broken, (0,), hall.put, (first, second))


if __name__ == "__main__":
    unittest.main()
