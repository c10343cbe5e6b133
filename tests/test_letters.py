"""Promise [20]: letters, of anything."""

import copy
import random
import unittest

from notbothout.letters import is_letter
from tests.plain import Odd, anything, nested, nested_list, otherwise

SIXTY = 10 ** 60 - 1
WISH = (1, (0, 3))


def plainly_wish(thing):
    if type(thing) is not tuple or len(thing) != 2 or type(thing[0]) is not int or thing[0] < 1:
        return False
    standing = thing[1]
    if type(standing) is not tuple or not 0 < len(standing) < 13:
        return False
    return all(type(place) is int and place >= 0 for place in standing)


def plainly_letter(thing):
    """The words of [20]."""
    if type(thing) is not tuple or not thing or type(thing[0]) is not str:
        return False
    if thing[0] == "word":
        return len(thing) == 2 and plainly_wish(thing[1])
    if thing[0] not in ("ask", "leave") or len(thing) != 4:
        return False
    if not all(type(part) is int and part >= 0 for part in thing[1:3]):
        return False
    return thing[3] is None or plainly_wish(thing[3])


class Letters(unittest.TestCase):
    def test_all_three_words(self):
        for letter in [
            ("ask", 0, 0, WISH), ("leave", 0, 0, WISH), ("word", WISH), ("ask", 39, 1, None), ("leave", 5, 60, None),
            ("ask", 10 ** 30, 10 ** 30, None), ("leave", SIXTY, SIXTY, (SIXTY, (SIXTY,) * 12)), ("word", (2, (0,))),
        ]:
            self.assertIs(is_letter(letter), True, letter)

    def test_wishes_of_one_twelve_none_and_thirteen_places(self):
        for many in range(20):
            wish = (1, (7,) * many)
            for letter in (("ask", 0, 0, wish), ("leave", 0, 0, wish), ("word", wish)):
                self.assertIs(is_letter(letter), 1 <= many <= 12, letter)

    def test_none_as_the_wish(self):
        self.assertIs(is_letter(("word", None)), False)
        self.assertIs(is_letter(("ask", 0, 0, None)), True)
        self.assertIs(is_letter(("leave", 0, 0, None)), True)

    def test_what_is_none(self):
        for letter in [
            ("ask", -1, 0, WISH), ("ask", 0, -1, WISH), ("leave", -1, 0, WISH), ("leave", 0, -1, None),
            ("word", (0, (0, 3))), ("word", (-1, (0, 3))), ("ask", 0, 0, (0, (0, 3))), ("word", (1, (0, -1))),
            ("ask", True, 0, WISH), ("ask", 0, False, WISH), ("word", (True, (0, 3))), ("word", (1, (True, 3))),
            ("ask", "0", 0, WISH), ("ask", 0, "0", WISH), ("ask", 0, 0, "1@0.3"), ("word", ("1", (0, 3))),
            ["ask", 0, 0, WISH], ("ask", 0, 0, [1, (0, 3)]), ("word", (1, [0, 3])), ["word", WISH], ("word", [1, (0,)]),
            ("ask", 0, WISH), ("ask", 0, 0, WISH, 0), ("ask", 0, 0), ("ask",), ("word",), ("word", 1, (0, 3)), (),
            ("word", WISH, WISH), ("word", (1,)), ("word", (1, (0, 3), 0)), ("word", 0, 0, WISH), ("ask", WISH),
            ("Ask", 0, 0, WISH), ("asks", 0, 0, WISH), ("", 0, 0, WISH), (b"ask", 0, 0, WISH), (None, 0, 0, WISH),
            (0, 0, 0, WISH), (Odd(), 0, 0, WISH), ("ask", Odd(), 0, WISH), ("ask", 0, 0, Odd()), ("word", Odd()),
            (Odd(), WISH), ("word", (Odd(), (0,))), ("word", (1, Odd())), ("word", (1, (Odd(),))), ("ask", None, 0, WISH),
            ("ask", 0, 0, ()), ("ask", 0, 0, 0), ("ask", 0, 0, False), ("word", ()), ("word", (None, (0, 3))),
            ("leave", 0, 0, nested((), 29)), ("word", nested(WISH, 20)), ("word", (1, nested(0, 28))),
            ("word", (1, nested_list(0, 28))), ("tell", WISH), ("ask", "word", WISH),
        ]:
            self.assertIs(is_letter(letter), False, letter)

    def test_of_anything(self):
        for thing in anything():
            self.assertIs(is_letter(thing), False)
            for letter in (("ask", 0, 0, WISH), ("leave", 3, 2, None), ("word", WISH)):
                for at in range(len(letter)):
                    other = letter[:at] + (thing,) + letter[at + 1:]
                    self.assertIs(is_letter(other), plainly_letter(other), other)

    def test_with_something_otherwise_at_any_place_and_depth(self):
        dice = random.Random(361)
        told = {True: 0, False: 0}
        for letter in [("ask", 0, 1, WISH), ("leave", 7, 30, (3, (1, 0, 4))), ("ask", 1, 0, None), ("word", WISH),
                       ("word", (12, (5,) * 12))]:
            rows = [letter] + [("ask", 0, 1, other) for other in otherwise(WISH, dice)]
            for row in rows:
                told[plainly_letter(row)] += 1
                self.assertIs(is_letter(row), plainly_letter(row), row)
            for other in otherwise(letter, dice):
                told[plainly_letter(other)] += 1
                self.assertIs(is_letter(other), plainly_letter(other), other)
        self.assertGreater(min(told.values()), 50, told)

    def test_by_its_name_and_nothing_is_changed(self):
        self.assertIs(is_letter(thing=("word", WISH)), True)
        handed = [["ask", 0, 0, [1, [0]]], ("word", (1, [0, 3])), {"ask": [0]}]
        before = copy.deepcopy(handed)
        self.assertEqual([is_letter(thing) for thing in handed], [False] * 3)
        self.assertEqual(handed, before)


if __name__ == "__main__":
    unittest.main()
