"""Promise [30], and [3] (h) of a desk: it answers as all the others do, and what is refused changes nothing."""

import random
import re
import unittest

from notbothout.desk import Desk
from notbothout.errors import BothError, Broken, Knotted, NoBack, NoGood, NoLetter, NoLine, NoRule, NoText, NoThing
from notbothout.going import way
from notbothout.halls import Hall
from notbothout.nearest import nearest
from notbothout.plans import Plan
from notbothout.rooms import room
from notbothout.showing import show_letter, show_plan, show_rule, show_standing, show_want, show_way
from notbothout.wants import is_want
from notbothout.waves import waves
from tests.plain import Odd, anything, good_ones, nested, nested_list, plainly_good, small_want
from tests.plain_hall import drawn_deed, told_by
from tests.plain_hand import kept_plans
from tests.walks import THIRTY, row_plan, turns_plan

PLAN = Plan((5, 5, 2), (((0, "to", 1), (1, "from", 3)), ((0, "to", 2), (0, "from", 4)), ((1, "to", 4), (2, "to", 0))))
TEXT = "things 5 5 2\nrule 0 to 1 / 1 from 3\nrule 0 to 2 / 0 from 4\nrule 1 to 4 / 2 to 0"
ASKED = "plan rules standing heard leaves letters waiting room gone".split()

NUMBER = "(?:0|[1-9][0-9]{0,29})"
NUMBERS = f"{NUMBER}(?: {NUMBER})*"
SIDE = f"{NUMBER} (?:from|to) {NUMBER}"
FORMS = re.compile("|".join([
    "full", "settle", "back", *ASKED, f"tell {NUMBERS}(?: to {NUMBERS})?", f"(?:rest|way|waves) {NUMBERS}",
    f"(?:beat|stride|come|lose|double|drop) {NUMBER}", f"put {SIDE} / {SIDE}", f"near (?:-|{SIDE}(?:, {SIDE})*)",
]))


def everything(desk):
    """All that a desk tells without a deed."""
    return [desk.say(word) for word in ASKED]


def dash(parts, sign):
    return sign.join(parts) or "-"


def asked(hall):
    """What the desk is to answer to all that is asked by a word alone."""
    return [
        "; ".join(show_plan(hall.plan()).split("\n")),
        dash([f"{number}: {show_rule(rule)}" for number, rule in hall.numbered()], "; "),
        show_standing(hall.standing()),
        " ".join("-" if number is None else str(number) for number in hall.heard()),
        dash([f"{number}:{'-' if thing is None else thing}" for number, thing in hall.leaves()], " "),
        dash([f"{mark}>{to} {show_letter(letter)}" for mark, to, letter in hall.under_way()], "; "),
        dash([f"{thing}:{number}" for thing, number in hall.waiting()], " "),
        " ".join(f"{low}..{high}" for low, high in room(hall.plan(), hall.standing())),
        str(hall.gone()),
    ]


def answer_of(told):
    """The answer to a deed that told this."""
    if told is None:
        return "done"
    return {True: "yes", False: "no"}[told] if isinstance(told, bool) else str(told)


def line_of(deed):
    """The line of a deed as [26] tells it."""
    word, *parts = deed
    if word == "tell":
        things = "" if parts[1] is None else " to " + " ".join(map(str, parts[1]))
        return "tell " + show_standing(parts[0]) + things
    if word == "put":
        return "put " + show_rule(parts[0])
    return f"{word} {parts[0]}"


class Checked(unittest.TestCase):
    def refused(self, kind, call, *told, **named):
        with self.assertRaises(kind) as caught:
            call(*told, **named)
        self.assertIs(type(caught.exception), kind, told)
        return list(vars(caught.exception).values())

    def unchanged(self, desk, kind, value, line):
        """The line is refused so, and the desk is as ahead; back takes the same deed back as it would have."""
        before, many = everything(desk), len(desk.hall)
        (found,) = self.refused(kind, desk.say, line)
        self.assertTrue(found is value or found == value, (line, found))
        self.assertEqual((everything(desk), len(desk.hall)), (before, many))


class Made(Checked):
    def test_as_written(self):
        self.assertEqual(everything(Desk(TEXT, "0 0 0")), [
            TEXT.replace("\n", "; "), "0: 0 to 1 / 1 from 3; 1: 0 to 2 / 0 from 4; 2: 1 to 4 / 2 to 0", "0 0 0", "- - -",
            "0:1 2:1", "-", "-", "0..2 0..5 0..2", "0",
        ])
        self.assertEqual(everything(Desk("things 0", "0")), ["things 0", "-", "0", "-", "-", "-", "-", "0..0", "0"])

    def test_the_plans_text_then_the_standings_then_as_a_hall(self):
        for plan_text, standing_text, kind, value in [
            ("", "0", NoText, 0), ("things 5\n", "x", NoText, 1), ("things 5\nrule 0 to 6 / 0 to 0", None, NoText, 2),
            (None, None, NoText, 0), (TEXT, None, NoText, 0), (TEXT, "0 0", NoText, 0), (TEXT, "0 0 3", NoText, 0),
            (TEXT, "0 0 0 ", NoText, 0), (TEXT, "0 0 00", NoText, 0), (TEXT, "2 0 0", Broken, (0,)),
            (TEXT, "3 5 1", Broken, (1, 2)), (TEXT + "\nx", "2 0 0", NoText, 4), (PLAN, "0 0 0", NoText, 0),
            (TEXT, (0, 0, 0), NoText, 0), ("things" + " 1" * 13, "0", NoText, 1),
        ]:
            self.assertEqual(self.refused(kind, Desk, plan_text, standing_text), [value])

    def test_of_anything(self):
        for thing in anything():
            self.assertEqual(self.refused(NoText, Desk, thing, "0 0 0"), [0])
            self.assertEqual(self.refused(NoText, Desk, TEXT, thing), [0])
            self.assertEqual(self.refused(NoText, Desk, thing, thing), [0])

    def test_by_names(self):
        desk = Desk(standing_text="0 0 0", plan_text=TEXT)
        self.assertEqual(desk.say(line="standing"), "0 0 0")
        self.assertIn("say", vars(Desk))


class Said(Checked):
    def test_as_written(self):
        desk = Desk(TEXT, "0 0 0")
        for line, answer in [
            ("tell 2 4 2", "1"), ("letters", "0>0 word 1@2.4.2; 1>1 word 1@2.4.2; 2>2 word 1@2.4.2"), ("come 0", "0"),
            ("heard", "1 - -"), ("stride 0", "1"), ("waiting", "0:0"), ("beat 0", "2"), ("double 3", "5"),
            ("lose 1", "done"), ("letters", "2>2 word 1@2.4.2; 3>1 ask 0 1 1@2.4.2; 4>1 word 1@2.4.2; 5>1 ask 0 1 1@2.4.2"),
            ("come 3", "0"), ("stride 1", "4"), ("come 5", "1"), ("leaves", "0:- 2:1"), ("standing", "1 4 0"),
            ("rest 2 4 2", "2 4 2"), ("way 2 4 2", "0:2 2:2"), ("way 1 4 0", "-"), ("waves 2 4 2", "2"), ("gone", "5"),
            ("room", "0..2 0..5 0..2"), ("near 0 from 4", "4 4 0"), ("near 0 from 2, 0 to 1", "none"), ("near -", "1 4 0"),
            ("way 4 4 0", "knot"), ("waves 4 4 0", "knot"), ("rest 4 4 0", "2 4 0"), ("waves 1 4 0", "0"),
            ("put 0 to 4 / 2 from 1", "3"), ("rules", "0: 0 to 1 / 1 from 3; 1: 0 to 2 / 0 from 4; 2: 1 to 4 / 2 to 0; "
                                                      "3: 0 to 4 / 2 from 1"),
            ("drop 1", "done"), ("plan", "things 5 5 2; rule 0 to 1 / 1 from 3; rule 1 to 4 / 2 to 0; rule 0 to 4 / 2 from 1"),
            ("full", "yes"), ("letters", "-"), ("settle", "2"), ("standing", "2 4 2"), ("full", "no"), ("waiting", "-"),
            ("tell 0 0 0 to 0 2", "2"), ("letters", "33>0 word 2@0.0.0; 34>2 word 2@0.0.0"), ("back", "done"),
            ("letters", "-"), ("tell 0 0 0 to 1", "2"), ("settle", "4"), ("standing", "0 0 0"), ("gone", "16"),
        ]:
            self.assertEqual(desk.say(line), answer, line)

    def test_each_line_answered_as_the_hall_answers(self):
        words = {}
        for plan, standing, dice in kept_plans(120, 551):
            desk, hall = Desk(show_plan(plan), show_standing(standing)), Hall(plan, standing)
            for k in range(40):
                self.assertEqual(everything(desk), asked(hall))
                if dice.randrange(3):
                    self.check_deed(desk, hall, drawn_deed(hall, good_ones(hall.plan()), dice), words)
                else:
                    self.check_asked(desk, hall, dice, words)
        self.assertEqual(len(words), 15, words)
        self.assertGreater(min(words.values()), 50, words)

    def check_deed(self, desk, hall, deed, words):
        words[deed[0]] = words.get(deed[0], 0) + 1
        named = {"hands": deed[2]} if deed[0] == "tell" else {}
        self.same(desk, line_of(deed), told_by(getattr(hall, deed[0]), deed[1], **named))

    def same(self, desk, line, expected):
        """The answer is as the hall's, and so is the refusal."""
        found = told_by(desk.say, line)
        if expected[0] == "told":
            self.assertEqual(found, ("told", answer_of(expected[1])), line)
            self.assertIs(type(found[1]), str)
        else:
            self.assertEqual(found, expected, line)

    def check_asked(self, desk, hall, dice, words):
        word = dice.choice("full settle back rest way near waves".split())
        words[word] = words.get(word, 0) + 1
        now, here = hall.plan(), hall.standing()
        if word in ("full", "settle", "back"):
            call = {"full": hall.full_beat, "settle": hall.settle, "back": hall.back}[word]
            self.same(desk, word, told_by(call))
        elif word == "near":
            want = small_want(now, dice)
            found = told_by(nearest, now, here, want)
            expected = show_standing(found[1]) if found[0] == "told" else "none"
            self.assertEqual(desk.say("near " + show_want(want)), expected)
        else:
            goal = tuple(dice.randrange(top + 1) for top in now.tops)
            if not plainly_good(now, goal):
                self.unchanged(desk, Broken, self.broken(hall, goal), f"{word} {show_standing(goal)}")
                goal = dice.choice(good_ones(now))
            self.assertEqual(desk.say(f"{word} {show_standing(goal)}"), self.expected(word, hall, goal))

    def broken(self, hall, goal):
        return tuple(number for number, rule in hall.numbered() if not plainly_good(Plan(hall.plan().tops, (rule,)), goal))

    def expected(self, word, hall, goal):
        now, here = hall.plan(), hall.standing()
        if word == "rest":
            return show_standing(hall.rest(goal))
        found, rows = way(now, here, goal)
        if found == "knot":
            self.refused(Knotted, waves, now, here, goal)
            return "knot"
        return show_way(rows) if word == "way" else str(waves(now, here, goal))

    def test_great_numbers(self):
        tops = " ".join([str(THIRTY)] * 12)
        desk = Desk(show_plan(row_plan()), " ".join(["0"] * 12))
        self.assertEqual(desk.say("waves " + tops), str(12 * THIRTY))
        self.assertEqual(desk.say("tell " + tops), "1")
        self.assertEqual(desk.say("settle"), "13")
        self.assertEqual((desk.say("standing"), desk.say("gone")), (tops, str(12 * THIRTY)))
        desk = Desk(show_plan(turns_plan()), "0 0")
        self.assertEqual(desk.say(f"tell {THIRTY} {THIRTY}"), "1")
        self.assertEqual(desk.say("settle"), "42")
        self.assertEqual(desk.say("room"), f"0..{THIRTY} 0..{THIRTY}")


class Refused(Checked):
    def test_no_line_by_its_form(self):
        desk = Desk(TEXT, "0 0 0")
        desk.say("tell 2 4 2")
        for line in [
            "", " ", "\n", "help", "Full", "full ", " full", "full 1", "full beat", "settle 60", "settle ", "back 1", "plan ",
            "rules 0", "standing 0 0 0", "letters 0", "gone ", "room 0", "heard\n", "full\n", "full\nfull",
            "tell", "tell ", "tell x", "tell 0 0 0 ", "tell  0 0 0", "tell 0  0 0", "tell 00 0 0", "tell 0 0 0 to",
            "tell 0 0 0 to ", "tell 0 0 0 to x", "tell 0 0 0 to 1 ", "tell 0 0 0 to 01", "tell to 1", "tell  to 1",
            "tell 0 0 0 to 1 to 2", "tell 0 0 0 from 1", "tell 0 0 0 to  1", "tell 0.0.0", f"tell 0 0 {THIRTY + 1}",
            f"tell 0 0 0 to {THIRTY + 1}", "tell 0 0 0\n", "tell -", "beat", "beat ", "beat x", "beat -1", "beat 0 1",
            "beat 00", "beat 01", f"beat {THIRTY + 1}", "stride", "stride all", "come", "come 0 0", "come +0", "lose",
            "lose 0.", "double", "double 0:", "put", "put ", "put 0 to 1", "put 0 to 1 / ", "put 0 to 1 / 1 from 3 ",
            "put 0 to 1 / 1 from 3 / 0 to 1", "put 0 to 1 /1 from 3", "put 0 at 1 / 1 from 3", "put 0 to 01 / 1 from 3",
            "put rule 0 to 1 / 1 from 3", "put -", "drop", "drop -", "drop 0 1", "rest", "rest -", "rest 0 0 0 to 1",
            "way", "way ", "way x", "waves", "waves 0 0 0,", "near", "near ", "near 0", "near 0 to 1,", "near 0 to 1,1 to 0",
            "near --", "near - ", "near 0 to 1, -", f"near 0 to {THIRTY + 1}", "trial", "under_way", "full_beat", "counts",
            "rest  0 0 0", "rest 0 0 0 ", "TELL 0 0 0", "quit", "tell\n0 0 0", "x" * 20000, "tell " + "0 " * 9000, "-",
        ]:
            self.unchanged(desk, NoLine, line, line)

    def test_no_line_of_anything(self):
        desk = Desk(TEXT, "0 0 0")
        desk.say("tell 2 4 2")
        for thing in [b"full", ["full"], ("full",), Odd(), nested("full", 29), nested_list("full", 29), PLAN, *anything()]:
            self.unchanged(desk, NoLine, thing, thing)

    def test_texts_then_goals_then_as_the_hall(self):
        desk = Desk(TEXT, "0 0 0")
        desk.say("tell 2 4 2")
        desk.say("drop 0")
        desk.say("put 0 to 2 / 1 from 2")
        for line, kind, value in [
            ("tell 0 0", NoText, 0), ("tell 0 0 0 0", NoText, 0), ("tell 6 0 0", NoText, 0), ("tell 0 0 3 to 9", NoText, 0),
            ("tell 3 0 0", Broken, (1, 3)), ("tell 3 5 1 to 9", Broken, (1, 2)), ("tell 0 0 0 to 3", NoThing, (3,)),
            ("tell 0 0 0 to 1 0", NoThing, (1, 0)), ("tell 0 0 0 to 1 1", NoThing, (1, 1)),
            ("rest 0 0", NoText, 0), ("rest 3 0 0", Broken, (1, 3)), ("way 0 0 9", NoText, 0), ("way 3 5 1", Broken, (1, 2)),
            ("waves 0", NoText, 0), ("waves 3 5 2", Broken, (1, 2)), ("near 0 to 6", NoText, 0), ("near 3 to 0", NoText, 0),
            ("near " + ", ".join(["0 to 1"] * 25), NoText, 0), ("put 0 to 6 / 1 to 0", NoText, 0),
            ("put 3 to 0 / 1 to 0", NoText, 0), ("put 0 from 1 / 1 from 1", Broken, (4,)), ("drop 0", NoRule, 0),
            ("drop 4", NoRule, 4), ("beat 3", NoThing, 3), (f"beat {THIRTY}", NoThing, THIRTY), ("stride 12", NoThing, 12),
            ("come 3", NoLetter, 3), ("lose 99", NoLetter, 99), (f"double {THIRTY}", NoLetter, THIRTY),
        ]:
            self.unchanged(desk, kind, value, line)
        self.assertEqual(desk.say("near " + ", ".join(["0 to 1"] * 24)), "0 0 0")

    def test_the_forty_first_rule(self):
        desk = Desk("things 2 2" + "\nrule 0 to 0 / 1 from 1" * 40, "0 0")
        self.unchanged(desk, NoRule, ((0, "to", 0), (1, "to", 0)), "put 0 to 0 / 1 to 0")
        self.unchanged(desk, NoRule, ((0, "from", 1), (1, "from", 1)), "put 0 from 1 / 1 from 1")
        self.unchanged(desk, NoText, 0, "put 0 to 3 / 1 to 0")
        self.assertEqual(desk.say("drop 0"), "done")
        self.unchanged(desk, Broken, (40,), "put 0 from 1 / 1 from 1")
        self.assertEqual(desk.say("put 0 to 0 / 1 to 0"), "40")

    def test_no_back(self):
        desk = Desk(TEXT, "0 0 0")
        self.refused(NoBack, desk.say, "back")
        self.assertEqual(everything(desk), everything(Desk(TEXT, "0 0 0")))
        desk.say("full")
        self.assertEqual(desk.say("back"), "done")
        self.refused(NoBack, desk.say, "back")

    def test_lines_misspelt(self):
        dice = random.Random(561)
        told = {"line": 0, "none": 0}
        lines = ["tell 2 4 2", "tell 0 1 2 to 0 2", "beat 1", "come 12", "put 0 to 1 / 1 from 3", "drop 2", "full", "settle",
                 "rest 1 2 0", "near 0 to 1, 1 from 3", "near -", "waves 0 0 0", "way 0 3 0", "standing", "heard", "letters"]
        signs = " 0123456789-/,.:@fromtwavesnplk\n~"
        for line in lines:
            for at in range(len(line) + 1):
                for other in [line[:at] + line[at + 1:], *[line[:at] + sign + line[at + dice.randrange(2):]
                                                           for sign in [" ", "0", dice.choice(signs), dice.choice(signs)]]]:
                    self.check_form(other, told)
        self.assertGreater(min(told.values()), 80, told)

    def check_form(self, line, told):
        desk = Desk(TEXT, "0 0 0")
        if FORMS.fullmatch(line):
            told["line"] += 1
            try:
                self.assertIs(type(desk.say(line)), str)
            except BothError as refused:
                self.assertNotIsInstance(refused, NoLine, line)
        else:
            told["none"] += 1
            self.unchanged(desk, NoLine, line, line)


class Ways(Checked):
    """What [2] says of desks."""

    def test_two_desks_beside_each_other(self):
        one, two = Desk(TEXT, "0 0 0"), Desk(TEXT, "0 0 0")
        fresh = everything(two)
        for line in ("tell 2 4 2", "full", "put 0 to 4 / 2 from 1", "drop 0"):
            one.say(line)
        self.assertEqual(everything(two), fresh)
        self.assertNotEqual(everything(one), fresh)

    def test_asked_again_the_same_is_told(self):
        desk = Desk(TEXT, "0 0 0")
        desk.say("tell 2 4 2")
        desk.say("full")
        for line in (*ASKED, "rest 0 0 0", "way 2 4 2", "near 0 from 4", "waves 0 0 0"):
            self.assertEqual(desk.say(line), desk.say(line))
            self.assertIs(type(desk.say(line)), str)

    def test_wants_that_no_good_standing_has(self):
        desk = Desk("things 3\nrule 0 to 1 / 0 to 1", "0")
        self.assertEqual(desk.say("near 0 from 2"), "none")
        self.refused(NoGood, nearest, Plan((3,), (((0, "to", 1),) * 2,)), (0,), ((0, "from", 2),))
        self.assertTrue(is_want(Plan((3,)), ((0, "from", 2),)))


if __name__ == "__main__":
    unittest.main()
