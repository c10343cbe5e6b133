"""The refusals of errors.py, [2] and the interface."""

import unittest

from notbothout import errors

VALUES = {
    "NoPlan": "field", "NoStanding": "thing", "NoGood": "paper", "Broken": "rules", "NoWay": "at", "Knotted": "ring",
    "NoThing": "thing", "NoRule": "thing", "NoLetter": "thing", "NoDeed": "at", "NoText": "row", "NoLine": "line",
}


class Errors(unittest.TestCase):
    def test_both_error_stands_straight_under_value_error(self):
        self.assertEqual(errors.BothError.__bases__, (ValueError,))

    def test_each_stands_straight_under_both_error(self):
        for name in [*VALUES, "NoBack"]:
            self.assertEqual(getattr(errors, name).__bases__, (errors.BothError,), name)

    def test_there_are_no_others(self):
        found = [name for name, value in vars(errors).items() if isinstance(value, type)]
        self.assertEqual(sorted(found), sorted([*VALUES, "NoBack", "BothError"]))

    def test_each_holds_its_value_by_place_and_by_name(self):
        for name, value in VALUES.items():
            for held in (0, "tops", (), ("ring", (), ()), None, [1], 10 ** 59):
                kind = getattr(errors, name)
                self.assertIs(getattr(kind(held), value), held, name)
                self.assertIs(getattr(kind(**{value: held}), value), held, name)

    def test_each_wants_its_value(self):
        for name in VALUES:
            with self.assertRaises(TypeError):
                getattr(errors, name)()

    def test_no_back_is_made_with_a_text(self):
        self.assertEqual(str(errors.NoBack("nothing stands")), "nothing stands")

    def test_caught_as_both_error_and_as_value_error_but_not_as_one_another(self):
        for name in [*VALUES, "NoBack"]:
            made = getattr(errors, name)("x")
            self.assertIsInstance(made, errors.BothError)
            self.assertIsInstance(made, ValueError)
            others = [getattr(errors, other) for other in [*VALUES, "NoBack"] if other != name]
            self.assertFalse(any(isinstance(made, other) for other in others), name)


if __name__ == "__main__":
    unittest.main()
