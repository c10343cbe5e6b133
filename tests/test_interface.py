"""The interface at the end of the document, and [2]: every name in its module, every argument by its name."""

import importlib
import inspect
import unittest

NAMES = {
    "errors": "BothError NoPlan NoStanding NoGood Broken NoWay Knotted NoThing NoRule NoLetter NoDeed NoText NoLine NoBack",
    "plans": "Plan", "standings": "is_side is_standing is_in broken is_good", "middles": "far middle is_between",
    "sides": "other_side leads is_chain", "wants": "is_want has follows", "bounds": "shows_none bounds a_good",
    "nearest": "nearest nearest_paper shows_nearest", "ways": "walked steps", "needs": "needs",
    "going": "way door to_door", "knots": "shows_knot", "rooms": "room same_room edge",
    "waves": "waves wave_of runs shows_runs", "waiting": "waits shows_waits", "bundles": "bundle",
    "bolts": "deeds shows_deeds", "letters": "is_letter", "hands": "Hand", "halls": "MOST Hall",
    "showing": "show_side show_rule show_standing show_want show_way show_letter show_plan",
    "reading": "read_rule read_standing read_want read_letter read_plan", "desk": "Desk",
}
# Each call as the document writes it.
CALLS = {
    "standings": ["is_side(plan, thing)", "is_standing(plan, thing)", "is_in(side, standing)", "broken(plan, standing)",
                  "is_good(plan, standing)"],
    "middles": ["far(one, other)", "middle(one, two, three)", "is_between(one, x, other)"],
    "sides": ["other_side(plan, side)", "leads(plan, one, other)", "is_chain(plan, thing)"],
    "wants": ["is_want(plan, thing)", "has(want, standing)", "follows(plan, want)"],
    "bounds": ["shows_none(plan, want, thing)", "bounds(plan, want=())", "a_good(plan, want=())"],
    "nearest": ["nearest(plan, standing, want)", "nearest_paper(plan, standing, want)",
                "shows_nearest(plan, standing, want, new, thing)"],
    "ways": ["walked(plan, standing, way)", "steps(standing, way)"], "needs": ["needs(plan, one, other)"],
    "going": ["way(plan, one, other)", "door(plan, standing, goal)", "to_door(plan, standing, goal)"],
    "knots": ["shows_knot(plan, one, other, thing)"],
    "rooms": ["room(plan, standing)", "same_room(plan, one, other)", "edge(plan, standing, side)"],
    "waves": ["waves(plan, one, other)", "wave_of(plan, one, other, thing, place)", "runs(plan, one, other)",
              "shows_runs(plan, one, other, many, thing)"],
    "waiting": ["waits(plan, one, other)", "shows_waits(plan, one, other, many, thing)"],
    "bundles": ["bundle(plan, thing, place)"], "bolts": ["deeds(plan, one, other)", "shows_deeds(plan, one, other, thing)"],
    "letters": ["is_letter(thing)"],
    "showing": ["show_side(side)", "show_rule(rule)", "show_standing(standing)", "show_want(want)", "show_way(way)",
                "show_letter(letter)", "show_plan(plan)"],
    "reading": ["read_rule(plan, text)", "read_standing(plan, text)", "read_want(plan, text)", "read_letter(text)",
                "read_plan(text)"],
}
METHODS = {
    ("plans", "Plan"): ["__init__(self, tops, rules=())", "__eq__(self, other)", "__len__(self)", "__str__(self)"],
    ("hands", "Hand"): ["__init__(self, thing, place, rules)", "count_of(self, number)", "has_leave(self, number)",
                        "stride(self)", "lacks(self)", "beat(self)", "hear(self, letter)",
                        "put(self, number, rule, count)", "drop(self, number)"],
    ("halls", "Hall"): ["__init__(self, plan, standing)", "tell(self, goal, *, hands=None)", "beat(self, thing)",
                        "stride(self, thing)", "come(self, mark)", "lose(self, mark)", "double(self, mark)",
                        "put(self, rule)", "drop(self, number)", "full_beat(self)", "settle(self, *, most=60)",
                        "plan(self)", "numbered(self)", "standing(self)", "heard(self)", "leaves(self)", "counts(self)",
                        "under_way(self)", "waiting(self)", "rest(self, goal)", "gone(self)", "back(self)",
                        "trial(self, deeds, ask)", "__len__(self)"],
    ("desk", "Desk"): ["__init__(self, plan_text, standing_text)", "say(self, line)"],
}


def module(name):
    return importlib.import_module(f"notbothout.{name}")


class Interface(unittest.TestCase):
    def test_every_name_in_its_module(self):
        for name, names in NAMES.items():
            for told in names.split():
                self.assertTrue(hasattr(module(name), told), (name, told))

    def test_every_function_by_its_arguments(self):
        listed = {told for names in NAMES.values() for told in names.split()}
        for name, calls in CALLS.items():
            for call in calls:
                function = getattr(module(name), call.split("(")[0])
                self.assertIn(function.__name__, listed)
                self.assertEqual(function.__name__ + str(inspect.signature(function)), call)

    def test_every_method_stands_in_its_class_with_its_arguments(self):
        for (name, kind), calls in METHODS.items():
            for call in calls:
                method = vars(getattr(module(name), kind))[call.split("(")[0]]
                self.assertEqual(method.__name__ + str(inspect.signature(method)), call)

    def test_values_are_set_when_an_object_is_made(self):
        hand = module("hands").Hand(2, 5, ())
        self.assertEqual((hand.thing, hand.place, hand.wish), (2, 5, None))
        plan = module("plans").Plan((1, 2))
        self.assertEqual((plan.tops, plan.rules), ((1, 2), ()))
        self.assertEqual(module("halls").MOST, 60)


if __name__ == "__main__":
    unittest.main()
