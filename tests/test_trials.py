"""Promise [26], and [3] (h) of halls: what is taken back is as it was, and trials leave all as ahead."""

import copy
import random
import unittest

from notbothout.errors import BothError, Broken, NoBack, NoDeed, NoLetter, NoRule, NoStanding, NoThing
from notbothout.halls import Hall
from notbothout.plans import Plan
from tests.plain import Odd, anything, good_ones, nested, nested_list, otherwise
from tests.plain_hall import PlainHall, do, drawn_deed, everything, odd_deed
from tests.plain_hand import kept_plans
from tests.walks import THIRTY

PLAN = Plan((5, 5, 2), (((0, "to", 1), (1, "from", 3)), ((0, "to", 2), (0, "from", 4)), ((1, "to", 4), (2, "to", 0))))
HERE, THERE = (0, 0, 0), (2, 4, 2)
RULE = ((0, "to", 4), (2, "from", 1))
# One of each form, to be done in this order.
ROW = (
    ("tell", THERE, None), ("come", 0), ("stride", 0), ("beat", 0), ("double", 3), ("lose", 4), ("put", RULE),
    ("drop", 3), ("full_beat",), ("settle", 60), ("tell", HERE, (1,)), ("settle", 0),
)


class Own(Exception):
    """What an asker refuses with."""


class Checked(unittest.TestCase):
    def refused(self, kind, call, *told, **named):
        with self.assertRaises(kind) as caught:
            call(*told, **named)
        self.assertIs(type(caught.exception), kind)
        return caught.exception


class Back(Checked):
    def test_behind_each_sort_of_deed(self):
        hall = Hall(PLAN, HERE)
        kept = [everything(hall)]
        for deed in ROW:
            self.assertEqual(do(hall, deed)[0], "told", deed)
            kept.append(everything(hall))
            self.assertIsNone(hall.back())
            self.assertEqual(everything(hall), kept[-2], deed)
            do(hall, deed)
            self.assertEqual(everything(hall), kept[-1], deed)
        for ahead in kept[-2::-1]:
            self.assertIsNone(hall.back())
            self.assertEqual(everything(hall), ahead)

    def test_no_back(self):
        hall = Hall(PLAN, HERE)
        before = everything(hall)
        for k in range(2):
            self.assertNotEqual(str(self.refused(NoBack, hall.back)), "")
            self.assertEqual(everything(hall), before)
        hall.settle(most=0)
        hall.back()
        self.refused(NoBack, hall.back)

    def test_marks_and_numbers_are_given_anew_as_at_first(self):
        hall = Hall(PLAN, HERE)
        first = [do(hall, deed) for deed in ROW]
        for deed in ROW:
            hall.back()
        self.assertEqual([do(hall, deed) for deed in ROW], first)
        hall = Hall(PLAN, HERE)
        for k in range(3):
            self.assertEqual(hall.tell(THERE), 1)
            self.assertEqual([row[0] for row in hall.under_way()], [0, 1, 2])
            self.assertEqual(hall.put(RULE), 3)
            hall.back()
            hall.back()

    def test_what_is_refused_is_no_deed(self):
        hall = Hall(PLAN, HERE)
        hall.tell(THERE)
        for call, *told in [(hall.tell, None), (hall.beat, 3), (hall.come, 3), (hall.put, None), (hall.drop, 3)]:
            with self.assertRaises(BothError):
                call(*told)
        self.assertEqual(len(hall), 1)
        hall.back()
        self.assertEqual(everything(hall), everything(Hall(PLAN, HERE)))

    def test_long_rows_of_drawn_deeds(self):
        for plan, standing, dice in kept_plans(12, 441):
            hall, plain = Hall(plan, standing), PlainHall(plan, standing)
            kept = [everything(hall)]
            while len(hall) < 300:
                good = good_ones(plain.plan())
                deed = drawn_deed(plain, good, dice) if dice.randrange(3) else odd_deed(plain, good, dice, [None])
                do(hall, deed)
                do(plain, deed)
                del kept[len(hall):]
                kept += [everything(hall)] if len(hall) == len(kept) else []
                self.assertEqual(everything(hall), kept[-1])
            self.assertEqual(kept[-1], everything(plain))
            while len(hall) > 0:
                self.assertEqual(everything(hall), kept[len(hall)])
                hall.back()
            self.assertEqual(everything(hall), kept[0])


class Trial(Checked):
    def test_as_written(self):
        hall = Hall(PLAN, HERE)
        before = everything(hall)
        self.assertEqual(hall.trial((("tell", THERE, None), ("settle", 60)), lambda h: h.standing()), THERE)
        self.assertEqual(everything(hall), before)
        self.assertEqual(hall.trial((), lambda h: "asked"), "asked")
        self.assertIs(hall.trial((), lambda h: h), hall)

    def test_all_forms_are_done_one_by_one(self):
        for many in range(len(ROW) + 1):
            other = Hall(PLAN, HERE)
            for deed in ROW[:many]:
                do(other, deed)
            hall = Hall(PLAN, HERE)
            before = everything(hall)
            self.assertEqual(hall.trial(ROW[:many], everything), everything(other))
            self.assertEqual(everything(hall), before)

    def test_drawn_deeds_against_doing_them(self):
        refused = 0
        for plan, standing, dice in kept_plans(100, 451):
            hall, other = Hall(plan, standing), Hall(plan, standing)
            good = good_ones(plan)
            for k in range(10):
                deed = drawn_deed(hall, good, dice)
                do(hall, deed)
                do(other, deed)
            before = everything(hall)
            row, answers = [], []
            while len(row) < 12 and (not answers or answers[-1][0] == "told"):
                row.append(drawn_deed(other, good, dice))
                answers.append(do(other, row[-1]))
            if answers[-1][0] == "told":
                self.assertEqual(hall.trial(tuple(row), everything), everything(other))
            else:
                refused += 1
                kind, values = answers[-1][1:]
                found = self.refused(kind, hall.trial, tuple(row), self.fail)
                self.assertEqual(list(vars(found).values()), values)
            self.assertEqual(everything(hall), before)
        self.assertTrue(20 < refused < 90, refused)

    def test_deeds_that_are_refused(self):
        hall = Hall(PLAN, HERE)
        hall.tell(THERE, hands=(0,))
        before = everything(hall)
        for kind, value, deed in [
            (NoStanding, None, ("tell", None, None)), (Broken, (0,), ("tell", (2, 0, 0), None)),
            (NoThing, (), ("tell", HERE, ())), (NoThing, 3, ("beat", 3)), (NoThing, "0", ("stride", "0")),
            (NoLetter, True, ("come", True)), (NoLetter, 9, ("lose", 9)), (NoLetter, None, ("double", None)),
            (NoRule, (), ("put", ())), (Broken, (3,), ("put", ((0, "from", 5), (1, "from", 5)))), (NoRule, 7, ("drop", 7)),
        ]:
            for ahead in ((), (("come", 0), ("stride", 0)), ROW[6:9]):
                found = self.refused(kind, hall.trial, (*ahead, deed, *ROW[6:]), self.fail)
                expected = (4,) if ahead == ROW[6:9] and deed[0] == "put" and value == (3,) else value
                self.assertEqual(list(vars(found).values()), [expected])
                self.assertEqual(everything(hall), before)

    def test_an_asker_that_does_deeds_and_takes_back_all_that_stand(self):
        hall = Hall(PLAN, HERE)
        for deed in ROW[:5]:
            do(hall, deed)
        before = everything(hall)

        def take_back(h):
            h.settle()
            h.put(RULE)
            many = 0
            while len(h) > 0:
                h.back()
                many += 1
            at_first = everything(h)
            self.refused(NoBack, h.back)
            h.tell(THERE)
            h.drop(0)
            return many, at_first

        many, at_first = hall.trial(ROW[8:10], take_back)
        self.assertEqual((many, at_first), (9, everything(Hall(PLAN, HERE))))
        self.assertEqual(everything(hall), before)
        hall.back()
        self.assertEqual(len(hall), 4)

    def test_an_asker_that_tries_within_the_trial(self):
        hall = Hall(PLAN, HERE)
        before = everything(hall)

        def deeper(h, deep=0):
            here = everything(h)
            if deep < 12:
                h.trial((("tell", THERE, None), ("full_beat",)), lambda again: deeper(again, deep + 1))
                self.assertEqual(everything(h), here)
                self.refused(NoThing, h.trial, (("full_beat",), ("beat", 9)), deeper)
                self.refused(Own, h.trial, (("put", RULE),), self.refusing)
            self.assertEqual(everything(h), here)
            return len(h)

        self.assertEqual(hall.trial((("settle", 3),), deeper), 1)
        self.assertEqual(everything(hall), before)

    def refusing(self, hall):
        hall.tell(THERE)
        hall.full_beat()
        raise Own("no")

    def test_an_asker_that_refuses_in_its_own_way(self):
        hall = Hall(PLAN, HERE)
        hall.tell(THERE)
        before = everything(hall)
        error = Own("told on")

        def ask(h):
            h.back()
            raise error

        self.assertIs(self.refused(Own, hall.trial, ROW[8:9], ask), error)
        self.assertEqual(everything(hall), before)
        for kind in (KeyError, ZeroDivisionError, KeyboardInterrupt, NoDeed):
            def other(h):
                h.settle()
                raise kind("x")

            self.refused(kind, hall.trial, (), other)
            self.assertEqual(everything(hall), before)
        self.assertEqual(self.refused(NoThing, hall.trial, (), lambda h: h.beat(7)).thing, 7)
        self.assertEqual(everything(hall), before)

    def test_no_deed_at_the_first_that_has_no_form_ahead_of_all(self):
        hall = Hall(PLAN, HERE)
        hall.tell(THERE)
        before = everything(hall)
        bad = [
            ("tell", THERE), ("tell", THERE, None, None), ("tell",), ("beat",), ("beat", 0, 0), ("stride",), ("come",),
            ("lose", 0, 0), ("double",), ("put",), ("put", *RULE), ("drop",), ("full_beat", 0), ("settle",),
            ("settle", -1), ("settle", True), ("settle", None), ("settle", "3"), ("settle", (3,)), ("settle", 1, 1),
            ("back",), ("trial", (), len), ("Tell", THERE, None), ("beat ", 0), (), ("",), (None, 0), (b"beat", 0),
            ["beat", 0], "beat", "full_beat", None, 0, (Odd(), 0), Odd(), ("settle", Odd()), (("beat", 0),),
            nested(("beat", 0), 20), nested_list(0, 29), ("rest", THERE), ("full",), ("standing",),
        ]
        for thing in bad:
            for at, row in enumerate([(thing,), (ROW[1], thing, thing), (("beat", 9), ("come", 99), thing, ROW[0])]):
                self.assertEqual(self.refused(NoDeed, hall.trial, row, self.fail).at, at)
                self.assertEqual(everything(hall), before)
        # Whatever a hall refuses has the form.
        for thing in anything():
            for deed in [("tell", thing, thing), ("put", thing), ("come", thing), ("drop", thing), ("lose", thing)]:
                with self.assertRaises(BothError) as caught:
                    hall.trial((deed,), lambda h: self.refused(NoDeed, h.trial, (deed, None), self.fail) and h.beat(9))
                self.assertNotIsInstance(caught.exception, NoDeed)
        self.assertEqual(everything(hall), before)

    def test_of_anything_as_deeds(self):
        hall = Hall(PLAN, HERE)
        before = everything(hall)
        for thing in [None, list(ROW), {"tell": 1}, "tell", ROW[0], 0, True, Odd(), nested((), 29), *anything()]:
            self.assertEqual(self.refused(NoDeed, hall.trial, thing, self.fail).at, 0)
        self.assertEqual(everything(hall), before)
        self.assertEqual(hall.trial((), len), 0)

    def test_with_something_otherwise_at_any_place_and_depth(self):
        dice = random.Random(461)
        parts = {deed[0]: len(deed) for deed in ROW}

        def formed(deed):
            if type(deed) is not tuple or not deed or type(deed[0]) is not str or parts.get(deed[0]) != len(deed):
                return False
            return deed[0] != "settle" or type(deed[1]) is int and deed[1] >= 0

        told = {True: 0, False: 0}
        for deeds in otherwise(ROW, dice):
            hall = Hall(PLAN, HERE)
            whole = type(deeds) is tuple
            wrong = [at for at, deed in enumerate(deeds) if not formed(deed)] if whole else [0]
            told[wrong == []] += 1
            if wrong:
                self.assertEqual(self.refused(NoDeed, hall.trial, deeds, self.fail).at, wrong[0])
            else:
                try:
                    hall.trial(deeds, everything)
                except BothError as refused:
                    self.assertNotIsInstance(refused, NoDeed)
            self.assertEqual(len(hall), 0)
        self.assertGreater(min(told.values()), 50, told)

    def test_great_numbers(self):
        hall = Hall(Plan((THIRTY,) * 12), (0,) * 12)
        deeds = (("tell", (THIRTY,) * 12, None), ("settle", THIRTY))
        self.assertEqual(hall.trial(deeds, lambda h: h.gone()), 12 * THIRTY)
        self.assertEqual((hall.gone(), len(hall)), (0, 0))

    def test_what_is_handed_in_stays_as_it_was(self):
        hall = Hall(PLAN, HERE)
        handed = [[["beat", 0]], (["beat", 0],), (("put", [[0]]),), (("tell", [0], [0]),)]
        before = copy.deepcopy(handed)
        for thing in handed:
            with self.assertRaises(BothError):
                hall.trial(thing, len)
        self.assertEqual(handed, before)


if __name__ == "__main__":
    unittest.main()
