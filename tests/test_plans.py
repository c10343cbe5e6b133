"""Promise [4]: plans, their values, their text, and what makes none."""

import copy
import unittest

from notbothout.errors import NoPlan
from notbothout.plans import Plan
from tests.plain import Odd, anything, great_plans, nested, nested_list

THIRTY = 10 ** 30 - 1
RULE = ((0, "from", 1), (1, "to", 2))
BAD_SIDES = [
    (), (0,), (0, "from"), (0, "from", 1, 1), (0, "From", 1), (0, "FROM", 1), (0, "from ", 1), (0, "", 1),
    (0, "at", 1), (0, None, 1), (0, b"from", 1), (0, 1, 1), (0, ("from",), 1), (0, Odd(), 1),
    (-1, "from", 1), (2, "from", 1), (10 ** 59, "from", 0), (0, "from", -1), (0, "from", 4), (1, "to", 6),
    (0, "to", 10 ** 59), (True, "from", 1), (False, "from", 1), (0, "from", True), (0, "from", False),
    (None, "from", 1), (0, "from", None), ("0", "from", 1), (0, "from", "1"), ("from", 0, 1), (0, 1, "from"),
    [0, "from", 1], "0 from 1", None, {}, 0, {0, "from", 1}, ((0, "from", 1),), (0, "from", (1,)), ((0,), "from", 1),
    nested((0, "from", 1), 27), (nested(0, 27), "from", 1), (0, "from", nested_list(1, 27)),
]


class Plans(unittest.TestCase):
    def refused(self, field, *told, **named):
        with self.assertRaises(NoPlan) as caught:
            Plan(*told, **named)
        self.assertEqual(caught.exception.field, field)

    def test_of_one_two_and_twelve_things(self):
        for tops in ((0,), (THIRTY,), (3, 5), (0, 0), tuple(range(12)), (THIRTY,) * 12):
            plan = Plan(tops)
            self.assertEqual((plan.tops, plan.rules, len(plan)), (tops, (), len(tops)))

    def test_rules_are_kept_as_they_are(self):
        rules = (RULE, ((1, "to", 0), (1, "to", 0)), ((0, "from", 0), (0, "to", 3)), ((1, "from", 5), (0, "to", 0)))
        self.assertEqual(Plan((3, 5), rules).rules, rules)
        self.assertEqual(Plan((3, 5), (RULE,) * 40).rules, (RULE,) * 40)
        self.assertEqual(Plan((3, 5), ()).rules, ())
        great = ((0, "from", THIRTY), (11, "to", THIRTY))
        self.assertEqual(Plan((THIRTY,) * 12, (great,)).rules, (great,))

    def test_by_names(self):
        plan = Plan(rules=(RULE,), tops=(3, 5))
        self.assertEqual((plan.tops, plan.rules), ((3, 5), (RULE,)))
        self.assertEqual(Plan(tops=(3, 5)).rules, ())

    def test_no_tops(self):
        for tops in [
            (), (0,) * 13, (-1,), (3, -1), (THIRTY + 1,), (3, THIRTY + 1), (10 ** 59,), (True,), (3, False), (None,),
            ("3",), ((3,),), (3, [4]), (Odd(),), [3, 5], [], "35", "", b"35", None, {}, {3: 5}, {3, 5}, 0, 3, True,
            range(3), object(), Odd(), Plan((3, 5)), nested(3, 30), nested_list(3, 30),
        ]:
            self.refused("tops", tops)
            self.refused("tops", tops=tops, rules=())

    def test_no_tops_of_anything(self):
        for thing in anything():
            self.refused("tops", thing)

    def test_no_rules(self):
        for rules in [
            [], [RULE], None, {}, "", "rules", 0, True, set(), object(), Odd(), RULE, (RULE,) * 41, RULE * 2,
            ((RULE,),), ((),), (RULE[0],), ((RULE[0],),), ((*RULE, RULE[0]),), (list(RULE),), (None,), (RULE, None),
            (0,), ("rule",), (Odd(),), nested(RULE, 29), nested_list(RULE, 29), (nested((), 29),),
        ]:
            self.refused("rules", (3, 5), rules)
            self.refused("rules", tops=(3, 5), rules=rules)

    def test_no_rules_of_a_side_that_is_none(self):
        for side in BAD_SIDES:
            self.refused("rules", (3, 5), ((side, RULE[1]),))
            self.refused("rules", (3, 5), ((RULE[0], side),))
            self.refused("rules", (3, 5), (RULE, RULE, (RULE[1], side)))

    def test_no_rules_of_anything(self):
        for thing in anything():
            self.refused("rules", (3, 5), thing)
            self.refused("rules", (3, 5), (thing,))
            self.refused("rules", (3, 5), ((thing, RULE[0]),))
            self.refused("rules", (3, 5), ((RULE[0], thing),))

    def test_places_are_measured_by_their_own_thing(self):
        self.assertEqual(Plan((3, 5), (((1, "from", 5), (0, "to", 3)),)).tops, (3, 5))
        self.refused("rules", (3, 5), (((0, "from", 5), (1, "to", 3)),))
        self.refused("rules", (0,), (((0, "from", 0), (0, "to", 1)),))

    def test_the_first_that_is_not_so(self):
        self.refused("tops", (), [])
        self.refused("tops", None, None)
        self.refused("tops", rules=((BAD_SIDES[0], RULE[0]),), tops=(-1,))
        self.refused("tops", [3, 5], (RULE,))

    def test_text(self):
        self.assertEqual(str(Plan((0,))), "things 0")
        self.assertEqual(str(Plan((3, 5))), "things 3 5")
        self.assertEqual(str(Plan((3, 5), (RULE,))), "things 3 5\nrule 0 from 1 / 1 to 2")
        self.assertEqual(
            str(Plan((3, THIRTY), (((1, "from", THIRTY), (0, "to", 0)), RULE, RULE))),
            "things 3 " + "9" * 30 + "\nrule 1 from " + "9" * 30 + " / 0 to 0"
            + "\nrule 0 from 1 / 1 to 2\nrule 0 from 1 / 1 to 2",
        )
        self.assertEqual(str(Plan(tuple(range(12)))), "things 0 1 2 3 4 5 6 7 8 9 10 11")

    def test_text_of_a_great_plan(self):
        for plan in great_plans(1, 4):
            rows = str(plan).split("\n")
            self.assertEqual(rows[0].split(" "), ["things", *[str(top) for top in plan.tops]])
            self.assertEqual(len(rows), 41)
            for row, (one, two) in zip(rows[1:], plan.rules):
                self.assertEqual(row, "rule " + " ".join(map(str, one)) + " / " + " ".join(map(str, two)))

    def test_equal(self):
        self.assertTrue(Plan((3, 5), (RULE,)) == Plan((3, 5), (RULE,)))
        self.assertTrue(Plan((3, 5)) == Plan((3, 5), ()))
        self.assertFalse(Plan((3, 5), (RULE,)) != Plan((3, 5), (RULE,)))
        self.assertFalse(Plan((3, 5), (RULE,)) == Plan((3, 5)))
        self.assertFalse(Plan((3, 5), (RULE,)) == Plan((3, 6), (RULE,)))
        self.assertFalse(Plan((3, 5)) == Plan((5, 3)))
        self.assertFalse(Plan((3, 5)) == Plan((3, 5, 0)))
        self.assertFalse(Plan((3, 5), (RULE, RULE)) == Plan((3, 5), (RULE,)))
        self.assertFalse(Plan((3, 5), (RULE,)) == Plan((3, 5), (RULE[::-1],)))
        self.assertTrue(Plan((3, 5), (RULE,)) != Plan((3, 5)))

    def test_equal_tells_a_truth(self):
        self.assertIs(Plan((3, 5)).__eq__(Plan((3, 5))), True)
        self.assertIs(Plan((3, 5)).__eq__(Plan((3, 6))), False)

    def test_equal_to_nothing_of_another_kind(self):
        plan = Plan((3, 5), (RULE,))
        others = [other for other in anything() if not isinstance(other, Plan)]
        for other in [*others, (3, 5), ((3, 5), (RULE,)), str(plan), [plan], (plan,)]:
            self.assertIs(plan == other, False)
            self.assertIs(plan != other, True)

    def test_defined_in_the_class_itself(self):
        for name in ("__init__", "__eq__", "__len__", "__str__"):
            self.assertIn(name, vars(Plan))

    def test_what_is_handed_in_stays_as_it_was(self):
        tops, rules = [3, 5], [[list(RULE[0]), list(RULE[1])]]
        before = copy.deepcopy((tops, rules))
        self.refused("tops", tops, rules)
        self.refused("rules", tuple(tops), rules)
        self.refused("rules", tuple(tops), (rules[0],))
        self.assertEqual((tops, rules), before)

    def test_asked_again_the_same_is_told(self):
        plan = Plan((3, 5), (RULE,))
        first = (str(plan), len(plan), plan.tops, plan.rules)
        self.assertEqual((str(plan), len(plan), plan.tops, plan.rules), first)
        self.assertIs(type(plan.tops), tuple)
        self.assertIs(type(plan.rules), tuple)


if __name__ == "__main__":
    unittest.main()
