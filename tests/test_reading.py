"""Promises [28] and [29], and [3] (h) of texts: what is written is read as it was, and nothing else is."""

import random
import re
import unittest

from notbothout.errors import NoPlan, NoText
from notbothout.letters import is_letter
from notbothout.plans import Plan
from notbothout.reading import read_letter, read_plan, read_rule, read_standing, read_want
from notbothout.showing import show_letter, show_plan, show_rule, show_standing, show_want
from notbothout.standings import is_standing
from notbothout.wants import is_want
from tests.plain import Odd, anything, great_plans, great_side, nested, nested_list, sides_of, small_plans, small_want
from tests.walks import THIRTY

NUMBER = "(?:0|[1-9][0-9]{0,29})"
SIDE = f"{NUMBER} (?:from|to) {NUMBER}"
RULE = f"{SIDE} / {SIDE}"
PLAN = Plan((4, 15), (((0, "to", 1), (1, "from", 3)),))
GREAT = Plan((THIRTY, 10))


def plain_side(text):
    thing, word, place = text.split()
    return int(thing), word, int(place)


def plain_rule(plan, text):
    """What [28] reads as a rule, by a pattern; None of others."""
    if not re.fullmatch(RULE, text):
        return None
    rule = tuple(plain_side(side) for side in text.split("/"))
    return rule if all(is_plain_side(plan, side) for side in rule) else None


def is_plain_side(plan, side):
    return side[0] < len(plan.tops) and side[2] <= plan.tops[side[0]]


def plain_standing(plan, text):
    if not re.fullmatch(f"{NUMBER}(?: {NUMBER})*", text):
        return None
    places = tuple(int(word) for word in text.split())
    return places if is_standing(plan, places) else None


def plain_want(plan, text):
    if text == "-":
        return ()
    if not re.fullmatch(f"{SIDE}(?:, {SIDE})*", text):
        return None
    want = tuple(plain_side(side) for side in text.split(","))
    return want if is_want(plan, want) else None


def plain_letter(text):
    wish = f"(?:-|{NUMBER}@{NUMBER}(?:[.]{NUMBER})*)"
    if not re.fullmatch(f"(?:ask|leave) {NUMBER} {NUMBER} {wish}|word {wish}", text):
        return None
    word, *numbers, told = text.split()
    number, sign, places = told.partition("@")
    held = (int(number), tuple(int(place) for place in places.split("."))) if sign else None
    letter = (word, *[int(part) for part in numbers], held)
    return letter if is_letter(letter) else None


def plain_plan(text):
    """The plan that [29] reads, or the number of the row that is told."""
    rows = text.split("\n")
    for at, row in enumerate(rows):
        form = f"things {NUMBER}(?: {NUMBER})*" if at == 0 else f"rule {RULE}"
        if not re.fullmatch(form, row):
            return at
    rules = [tuple(plain_side(side) for side in row[5:].split("/")) for row in rows[1:]]
    try:
        return Plan(tuple(int(word) for word in rows[0].split()[1:]), tuple(rules))
    except NoPlan:
        return len(rows)


def misspelt(text, dice):
    """The text with a sign out, in, another one, two exchanged, blanks and line feeds, a 0 ahead."""
    signs = " 0123456789-/,.:@>fromtaskleavewdTHINGSrul\n;+_'\"!~"
    for at in range(len(text) + 1):
        ahead, behind = text[:at], text[at:]
        for sign in [" ", "0", "\n", dice.choice(signs), dice.choice(signs)]:
            yield ahead + sign + behind
            yield ahead + sign + behind[1:]
        yield ahead + behind[1:]
        yield ahead + behind[1:2] + behind[:1] + behind[2:]
        yield ahead + behind[:1].upper() + behind[1:]
    yield from [" " + text, text + " ", text + "\n", "\n" + text, text + text, text + " " + text, "", " ", "\n"]


def not_texts():
    return [thing for thing in anything() if not isinstance(thing, str)] + [
        ["0 0"], ("0 0",), b"0 0", Odd(), nested("0 0", 29), nested_list("0 0", 29)]


class Checked(unittest.TestCase):
    def row_of(self, call, *told, **named):
        with self.assertRaises(NoText) as caught:
            call(*told, **named)
        self.assertIs(type(caught.exception), NoText)
        self.assertIs(type(caught.exception.row), int)
        return caught.exception.row

    def check(self, expected, call, *told):
        """Told as expected; refused with 0 where that is None."""
        if expected is None:
            self.assertEqual(self.row_of(call, *told), 0, told)
        else:
            self.assertEqual(call(*told), expected)


class Rules(Checked):
    def test_written_and_read(self):
        for plan in [*small_plans(80, 501), *great_plans(3, 502)]:
            for rule in plan.rules:
                self.assertEqual(read_rule(plan, show_rule(rule)), rule)

    def test_misspelt(self):
        dice = random.Random(503)
        told = {True: 0, False: 0}
        for plan, text in [(PLAN, "0 to 1 / 1 from 13"), (PLAN, "1 from 0 / 1 to 15"), (GREAT, f"0 to {THIRTY} / 1 to 10")]:
            for other in misspelt(text, dice):
                expected = plain_rule(plan, other)
                told[expected is not None] += 1
                self.check(expected, read_rule, plan, other)
        self.assertGreater(min(told.values()), 50, told)

    def test_things_and_places_that_are_not_of_the_plan(self):
        self.assertEqual(read_rule(PLAN, "0 to 4 / 1 from 15"), ((0, "to", 4), (1, "from", 15)))
        for text in ["0 to 5 / 1 from 15", "0 to 4 / 1 from 16", "2 to 0 / 1 from 3", "0 to 4 / 2 from 0", "0 to 1",
                     "0 to 1 / 1 from 3 / 0 to 1", "0 to 1/1 from 3", "0 to 1 /1 from 3", "0 to 1, 1 from 3", "-",
                     "0 to 01 / 1 from 3", "00 to 1 / 1 from 3", "0 to -1 / 1 from 3", "0 at 1 / 1 from 3",
                     "0 To 1 / 1 from 3", "0  to 1 / 1 from 3", "0 to 1 / 1 from 3 ", "rule 0 to 1 / 1 from 3"]:
            self.assertEqual(self.row_of(read_rule, PLAN, text), 0)

    def test_numbers_of_thirty_and_of_thirty_one_figures(self):
        self.assertEqual(read_rule(GREAT, f"0 to {THIRTY} / 1 to 0")[0], (0, "to", THIRTY))
        self.assertEqual(self.row_of(read_rule, GREAT, f"0 to {THIRTY + 1} / 1 to 0"), 0)
        self.assertEqual(self.row_of(read_rule, GREAT, "0 to " + "9" * 9000 + " / 1 to 0"), 0)

    def test_of_anything(self):
        for thing in not_texts():
            self.assertEqual(self.row_of(read_rule, PLAN, thing), 0)


class Standings(Checked):
    def test_written_and_read(self):
        dice = random.Random(511)
        for plan in [*small_plans(80, 511), *great_plans(3, 512)]:
            for k in range(5):
                standing = tuple(dice.randrange(top + 1) for top in plan.tops)
                self.assertEqual(read_standing(plan, show_standing(standing)), standing)

    def test_misspelt(self):
        dice = random.Random(513)
        told = {True: 0, False: 0}
        for plan, text in [(PLAN, "3 12"), (PLAN, "0 0"), (GREAT, f"{THIRTY} 10"), (Plan((30,)), "25"), (Plan((0,)), "0")]:
            for other in misspelt(text, dice):
                expected = plain_standing(plan, other)
                told[expected is not None] += 1
                self.check(expected, read_standing, plan, other)
        self.assertGreater(min(told.values()), 40, told)

    def test_places_at_their_edges(self):
        self.assertEqual(read_standing(PLAN, "4 15"), (4, 15))
        # Whether it is good isn't asked.
        self.assertEqual(read_standing(PLAN, "4 0"), (4, 0))
        self.assertEqual(read_standing(GREAT, f"{THIRTY} 0"), (THIRTY, 0))
        for text in ["5 15", "4 16", "4", "4 15 0", "", " ", "4  15", " 4 15", "4 15 ", "4 15\n", "04 15", "4 015", "+4 15",
                     "4_0 1", "-", "4.15", "4, 15", "-0 0", "0x1 0", "(0, 0)", "1e0 0"]:
            self.assertEqual(self.row_of(read_standing, PLAN, text), 0, text)
        self.assertEqual(self.row_of(read_standing, GREAT, f"{THIRTY + 1} 0"), 0)

    def test_signs_that_other_tongues_count_by(self):
        for text in ["\u0663 1", "\u00b2 1", "\uff11 1"]:
            self.assertEqual(self.row_of(read_standing, PLAN, text), 0)

    def test_of_anything(self):
        for thing in [*not_texts(), (0, 0), [0, 0], 0, 1]:
            self.assertEqual(self.row_of(read_standing, PLAN, thing), 0)


class Wants(Checked):
    def test_written_and_read(self):
        dice = random.Random(521)
        for plan in small_plans(100, 521):
            want = small_want(plan, dice, most=8)
            self.assertEqual(read_want(plan, show_want(want)), want)
        for plan in great_plans(3, 522):
            want = tuple(great_side(plan.tops, dice) for k in range(24))
            self.assertEqual(read_want(plan, show_want(want)), want)

    def test_misspelt(self):
        dice = random.Random(523)
        told = {True: 0, False: 0}
        for plan, text in [(PLAN, "-"), (PLAN, "0 to 1"), (PLAN, "0 to 1, 1 from 13, 0 to 1"), (GREAT, f"0 to {THIRTY}")]:
            for other in misspelt(text, dice):
                expected = plain_want(plan, other)
                told[expected is not None] += 1
                self.check(expected, read_want, plan, other)
        self.assertGreater(min(told.values()), 40, told)

    def test_of_none_one_and_twenty_four_sides(self):
        self.assertEqual(read_want(PLAN, "-"), ())
        for many in range(1, 30):
            text = ", ".join(["1 from 15"] * many)
            self.check(((1, "from", 15),) * many if many <= 24 else None, read_want, PLAN, text)
        for text in ["", "--", "- ", "0 to 1,", "0 to 1, ", ", 0 to 1", "0 to 1,1 to 0", "0 to 1,  1 to 0", "0 to 1, -",
                     "-, 0 to 1", "0 to 5", "2 to 0", "0 to 1 / 1 to 0", "none", "0 to 1; 1 to 0"]:
            self.assertEqual(self.row_of(read_want, PLAN, text), 0, text)

    def test_of_anything(self):
        for thing in [*not_texts(), (), ((0, "to", 1),)]:
            self.assertEqual(self.row_of(read_want, PLAN, thing), 0)


class Letters(Checked):
    def test_written_and_read(self):
        for wish in [(1, (0,)), (60, (3, 0, 12)), (THIRTY, (THIRTY,) * 12), None]:
            for letter in [("ask", 0, 0, wish), ("leave", 39, THIRTY, wish), ("word", wish)]:
                if letter != ("word", None):
                    self.assertEqual(read_letter(show_letter(letter)), letter)

    def test_misspelt(self):
        dice = random.Random(531)
        told = {True: 0, False: 0}
        for text in ["ask 3 12 1@4.5", "leave 0 1 -", "word 20@3.0.12", f"ask {THIRTY} 0 {THIRTY}@{THIRTY}", "word 1@0"]:
            for other in misspelt(text, dice):
                expected = plain_letter(other)
                told[expected is not None] += 1
                self.check(expected, read_letter, other)
        self.assertGreater(min(told.values()), 100, told)

    def test_wishes_of_none_one_twelve_and_thirteen_places(self):
        for many in range(15):
            for text in ["ask 0 0 ", "leave 0 0 ", "word "]:
                wish = "2@" + ".".join(["7"] * many)
                letter = (*[int(w) if w == "0" else w for w in text.split()], (2, (7,) * many))
                self.check(letter if 1 <= many <= 12 else None, read_letter, text + wish)

    def test_what_is_none(self):
        for text in ["word -", "word 0@1", "ask 0 0 0@1", "ask 0 -", "ask 0 0", "ask 0 0 0 -", "ask", "word", "leave", "-",
                     "word 1@", "word @1", "word 1", "word 1@1.", "word 1@.1", "word 1@1..2", "word 1@1@2", "word 1@1 2",
                     "word 1@01", "word 01@1", "ask 00 0 -", "ask 0 01 -", "ask -1 0 -", "ask 0 0 --", "ask 0 0 None",
                     "Ask 0 0 -", "asks 0 0 -", "ask  0 0 -", "ask 0 0 - ", " ask 0 0 -", "word  1@1", "word 0 0 1@1",
                     "ask 1@1", f"word {THIRTY + 1}@1", f"word 1@{THIRTY + 1}", f"ask {THIRTY + 1} 0 -", "", " ",
                     "ask 0 0 -\n", "ask\n0 0 -", "tell 1@1", "1@1", "1@1 1@1", "word word"]:
            self.assertEqual(self.row_of(read_letter, text), 0, text)

    def test_of_anything(self):
        for thing in [*not_texts(), ("ask", 0, 0, None), ("word", (1, (0,)))]:
            self.assertEqual(self.row_of(read_letter, thing), 0)


class Plans(Checked):
    def check_plan(self, text):
        expected = plain_plan(text)
        if isinstance(expected, Plan):
            self.assertEqual(read_plan(text), expected)
        else:
            self.assertEqual(self.row_of(read_plan, text), expected, text)
        return isinstance(expected, Plan)

    def test_written_and_read(self):
        for plan in [*small_plans(100, 541), *great_plans(4, 542), Plan((0,)), Plan((THIRTY,) * 12)]:
            self.assertEqual(read_plan(show_plan(plan)), plan)
            self.assertEqual(read_plan(str(plan)), plan)
            self.assertIs(type(read_plan(str(plan))), Plan)

    def test_one_to_twelve_things_and_none_to_forty_rules(self):
        for many in range(1, 20):
            text = "things" + " 3" * many
            if many <= 12:
                self.assertEqual(read_plan(text), Plan((3,) * many))
            else:
                self.assertEqual(self.row_of(read_plan, text), 1)
                self.assertEqual(self.row_of(read_plan, text + "\nrule 0 to 1 / 1 to 0"), 2)
        for many in range(50):
            text = "things 3 3" + "\nrule 0 to 1 / 1 from 3" * many
            if many <= 40:
                self.assertEqual(read_plan(text), Plan((3, 3), (((0, "to", 1), (1, "from", 3)),) * many))
            else:
                self.assertEqual(self.row_of(read_plan, text), many + 1)

    def test_rows_that_have_no_such_form_or_stand_where_they_cannot(self):
        rule = "rule 0 to 1 / 1 from 3"
        for row, text in [
            (0, ""), (0, "\n"), (0, "things"), (0, "things "), (0, "things 3 "), (0, "things  3"), (0, " things 3"),
            (0, "thing 3"), (0, "Things 3"), (0, "things 03"), (0, "things -1"), (0, "things 3,3"), (0, "3 3"),
            (0, rule), (0, f"{rule}\nthings 3 3"), (0, "\nthings 3 3"), (0, f"things {THIRTY + 1}"), (0, "things x\nx"),
            (1, "things 3 3\n"), (1, "things 3 3\nthings 3 3"), (1, f"things 3 3\nthings 3 3\n{rule}"),
            (1, f"things 3 3\n\n{rule}"), (2, f"things 3 3\n{rule}\n"), (2, f"things 3 3\n{rule}\nthings 3 3"),
            (1, "things 3 3\nrule"), (1, "things 3 3\nrule "), (1, "things 3 3\nrules 0 to 1 / 1 from 3"),
            (1, "things 3 3\n0 to 1 / 1 from 3"), (1, "things 3 3\nrule 0 to 1"), (1, f"things 3 3\n {rule}"),
            (1, f"things 3 3\n{rule} "), (2, f"things 3 3\n{rule}\nrule 0 to 1 / 1 from 03\n{rule}"),
            (1, f"things 3 3\nrule 0 to {THIRTY + 1} / 1 to 0\nx"), (3, f"things 3 3\n{rule}\n{rule}\n"),
            # The form is asked first, whatever the numbers are worth.
            (2, "things 3 3\nrule 0 to 4 / 1 from 3\n"), (1, "things" + " 3" * 13 + "\n"), (2, f"things 3 3\n{rule}\nx"),
            (2, "things 3 3\nrule 0 to 4 / 1 from 3"), (2, "things 3 3\nrule 2 to 0 / 1 from 3"),
            (3, f"things 3 3\nrule 0 to 1 / 1 from 4\n{rule}"), (2, f"things 3 3\nrule {THIRTY} to 1 / 1 from 3"),
            (0, f"things 3 3\r\n{rule}"), (0, "things 3\t3"),
        ]:
            self.assertEqual(plain_plan(text), row, text)
            self.assertEqual(self.row_of(read_plan, text), row, text)

    def test_rows_otherwise_out_twice_and_exchanged(self):
        dice = random.Random(543)
        told = {True: 0, False: 0}
        for plan in small_plans(60, 543):
            rows = show_plan(plan).split("\n")
            for at in range(len(rows)):
                other = dice.randrange(len(rows))
                swapped = list(rows)
                swapped[at], swapped[other] = swapped[other], swapped[at]
                odd = dice.choice(["", " ", "things 1", "rule", "rule 0 to 0 / 0 to 0", "rule 9 to 9 / 9 to 9", "-"])
                for changed in [swapped, rows[:at] + rows[at + 1:], rows[:at + 1] + rows[at:], rows[:at] + [odd] + rows[at:],
                                rows[:at] + [odd] + rows[at + 1:], rows + [""], rows + rows]:
                    told[self.check_plan("\n".join(changed))] += 1
        self.assertGreater(min(told.values()), 200, told)

    def test_misspelt(self):
        dice = random.Random(544)
        told = {True: 0, False: 0}
        for text in ["things 4 15\nrule 0 to 1 / 1 from 13\nrule 0 from 0 / 0 to 4", "things 0", f"things {THIRTY} 0"]:
            for other in misspelt(text, dice):
                told[self.check_plan(other)] += 1
        self.assertGreater(min(told.values()), 50, told)

    def test_of_anything(self):
        for thing in [*not_texts(), PLAN, (4, 15), ["things 4"], b"things 4"]:
            self.assertEqual(self.row_of(read_plan, thing), 0)


class Ways(Checked):
    """What [2] says of all of them."""

    def test_by_names(self):
        self.assertEqual(read_rule(text="0 to 1 / 1 to 0", plan=PLAN), ((0, "to", 1), (1, "to", 0)))
        self.assertEqual(read_standing(text="0 1", plan=PLAN), (0, 1))
        self.assertEqual(read_want(text="-", plan=PLAN), ())
        self.assertEqual(read_letter(text="word 1@0"), ("word", (1, (0,))))
        self.assertEqual(read_plan(text="things 1"), Plan((1,)))
        self.assertEqual(self.row_of(read_plan, text="x"), 0)

    def test_all_sides(self):
        for side in sides_of(PLAN.tops):
            self.assertEqual(read_want(PLAN, show_want((side,))), (side,))
            self.assertEqual(read_rule(PLAN, show_rule((side, side))), (side, side))

    def test_long_texts(self):
        for call in (read_plan, read_letter):
            for text in ("9" * 20000, " " * 20000, "\n" * 20000, "things " + "1 " * 9000, "word 1@" + "1." * 9000):
                self.assertEqual(self.row_of(call, text), 0)


if __name__ == "__main__":
    unittest.main()
