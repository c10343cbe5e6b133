"""Promise [27], and the first half of [28]: how sides, rules, standings, wants, ways, letters and plans are written."""

import random
import unittest

from notbothout.plans import Plan
from notbothout.showing import show_letter, show_plan, show_rule, show_side, show_standing, show_want, show_way
from tests.plain import great_plans, small_plans
from tests.walks import THIRTY


class Showing(unittest.TestCase):
    def test_sides_and_rules(self):
        self.assertEqual(show_side((0, "from", 3)), "0 from 3")
        self.assertEqual(show_side((11, "to", THIRTY)), "11 to " + "9" * 30)
        self.assertEqual(show_rule(((0, "to", 1), (1, "from", 3))), "0 to 1 / 1 from 3")
        self.assertEqual(show_rule(((2, "to", 0),) * 2), "2 to 0 / 2 to 0")

    def test_standings(self):
        self.assertEqual(show_standing((0,)), "0")
        self.assertEqual(show_standing((3, 0, 12)), "3 0 12")
        self.assertEqual(show_standing((THIRTY,) * 12), " ".join(["9" * 30] * 12))

    def test_wants(self):
        self.assertEqual(show_want(()), "-")
        self.assertEqual(show_want(((0, "from", 3),)), "0 from 3")
        self.assertEqual(show_want(((0, "from", 3), (1, "to", 0), (0, "from", 3))), "0 from 3, 1 to 0, 0 from 3")

    def test_ways(self):
        self.assertEqual(show_way(()), "-")
        self.assertEqual(show_way(((0, 1),)), "0:1")
        self.assertEqual(show_way(((0, 1), (11, THIRTY), (0, 0))), "0:1 11:" + "9" * 30 + " 0:0")

    def test_letters(self):
        self.assertEqual(show_letter(("ask", 3, 0, None)), "ask 3 0 -")
        self.assertEqual(show_letter(("ask", 3, 12, (1, (4, 5)))), "ask 3 12 1@4.5")
        self.assertEqual(show_letter(("leave", 0, 1, (60, (7,)))), "leave 0 1 60@7")
        self.assertEqual(show_letter(("leave", 39, 1, None)), "leave 39 1 -")
        self.assertEqual(show_letter(("word", (2, (0, 1, 2)))), "word 2@0.1.2")

    def test_plans(self):
        self.assertEqual(show_plan(Plan((4,))), "things 4")
        plan = Plan((4, 5), (((0, "to", 1), (1, "from", 3)), ((0, "from", 0), (0, "to", 4))))
        self.assertEqual(show_plan(plan), "things 4 5\nrule 0 to 1 / 1 from 3\nrule 0 from 0 / 0 to 4")
        for plan in [*small_plans(50, 491), *great_plans(3, 492)]:
            rows = ["things " + " ".join(map(str, plan.tops))]
            rows += [f"rule {a} {b} {c} / {d} {e} {f}" for (a, b, c), (d, e, f) in plan.rules]
            self.assertEqual(show_plan(plan), "\n".join(rows))
            self.assertEqual(str(plan), show_plan(plan))

    def test_by_names(self):
        self.assertEqual(show_side(side=(0, "to", 1)), "0 to 1")
        self.assertEqual(show_rule(rule=((0, "to", 1),) * 2), "0 to 1 / 0 to 1")
        self.assertEqual(show_standing(standing=(0, 1)), "0 1")
        self.assertEqual(show_want(want=()), "-")
        self.assertEqual(show_way(way=()), "-")
        self.assertEqual(show_letter(letter=("word", (1, (0,)))), "word 1@0")
        self.assertEqual(show_plan(plan=Plan((0,))), "things 0")

    def test_kinds(self):
        dice = random.Random(493)
        for text in (show_standing((1,)), show_way(((0, dice.randrange(9)),)), show_want(()), show_plan(Plan((1,)))):
            self.assertIs(type(text), str)


if __name__ == "__main__":
    unittest.main()
