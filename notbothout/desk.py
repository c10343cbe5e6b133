"""A desk: a hall to which lines of text are said, and which answers by texts."""

from notbothout.errors import Knotted, NoGood, NoLine
from notbothout.going import way
from notbothout.halls import Hall
from notbothout.nearest import nearest
from notbothout.reading import (
    are_numbers, is_number, is_rule_text, is_want_text, numbers_in, read_plan, read_rule, read_standing, read_want,
)
from notbothout.rooms import room
from notbothout.showing import NOTHING, plan_rows, show_letter, show_rule, show_standing, show_way
from notbothout.waves import waves


def told(answer):
    """The text of what a deed told."""
    if answer is None:
        return "done"
    if isinstance(answer, bool):
        return "yes" if answer else "no"
    return str(answer)


def or_nothing(text):
    """The text; the sign for nothing where it has no signs."""
    return text if text != "" else NOTHING


def number_or_nothing(number):
    """The text of a number or of None."""
    return NOTHING if number is None else str(number)


def say_full(hall):
    """All hands beat and stride."""
    return told(hall.full_beat())


def say_settle(hall):
    """Full beats till all rests."""
    return told(hall.settle())


def say_back(hall):
    """The last deed is taken back."""
    return told(hall.back())


def tell_plan(hall):
    """The rows of the plan's text."""
    plan = hall.plan()
    return "; ".join(plan_rows(plan.tops, plan.rules))


def tell_rules(hall):
    """The rules by their numbers."""
    return or_nothing("; ".join([f"{number}: {show_rule(rule)}" for number, rule in hall.numbered()]))


def tell_standing(hall):
    """Where all things are."""
    return show_standing(hall.standing())


def tell_heard(hall):
    """The numbers of the wishes that hands heard."""
    return " ".join([number_or_nothing(number) for number in hall.heard()])


def tell_leaves(hall):
    """Who has which leave."""
    return or_nothing(" ".join([f"{number}:{number_or_nothing(thing)}" for number, thing in hall.leaves()]))


def tell_letters(hall):
    """The letters under way."""
    return or_nothing("; ".join([f"{mark}>{to} {show_letter(letter)}" for mark, to, letter in hall.under_way()]))


def tell_waiting(hall):
    """Who lacks which leave."""
    return or_nothing(" ".join([f"{thing}:{number}" for thing, number in hall.waiting()]))


def tell_room(hall):
    """The least and greatest place of each thing in the room."""
    return " ".join([f"{low}..{high}" for low, high in room(hall.plan(), hall.standing())])


def tell_gone(hall):
    """How many places all hands went."""
    return str(hall.gone())


# What is said by a word alone.
ALONE = {
    "full": say_full, "settle": say_settle, "back": say_back, "plan": tell_plan, "rules": tell_rules,
    "standing": tell_standing, "heard": tell_heard, "leaves": tell_leaves, "letters": tell_letters,
    "waiting": tell_waiting, "room": tell_room, "gone": tell_gone,
}


def good_goal(hall, text):
    """The standing that the text tells; refused where it is none or isn't good."""
    goal = read_standing(hall.plan(), text)
    hall.check_goal(goal)
    return goal


def say_tell(hall, text):
    """A wish is told to all hands, or to some."""
    places, sign, things = text.partition(" to ")
    goal = read_standing(hall.plan(), places)
    return told(hall.tell(goal, hands=numbers_in(things) if sign != "" else None))


def say_beat(hall, text):
    """A hand beats."""
    return told(hall.beat(int(text)))


def say_stride(hall, text):
    """A hand strides."""
    return told(hall.stride(int(text)))


def say_come(hall, text):
    """A letter comes."""
    return told(hall.come(int(text)))


def say_lose(hall, text):
    """A letter is lost."""
    return told(hall.lose(int(text)))


def say_double(hall, text):
    """A letter is doubled."""
    return told(hall.double(int(text)))


def say_put(hall, text):
    """A rule more."""
    return told(hall.put(read_rule(hall.plan(), text)))


def say_drop(hall, text):
    """A rule fewer."""
    return told(hall.drop(int(text)))


def tell_rest(hall, text):
    """Where all comes to rest."""
    return show_standing(hall.rest(good_goal(hall, text)))


def tell_way(hall, text):
    """A way to the goal."""
    goal = good_goal(hall, text)
    word, rows = way(hall.plan(), hall.standing(), goal)
    return word if word == "knot" else show_way(rows)


def tell_near(hall, text):
    """The nearest good standing that has the want."""
    want = read_want(hall.plan(), text)
    try:
        return show_standing(nearest(hall.plan(), hall.standing(), want))
    except NoGood:
        return "none"


def tell_waves(hall, text):
    """With how few waves one comes to the goal."""
    goal = good_goal(hall, text)
    try:
        return str(waves(hall.plan(), hall.standing(), goal))
    except Knotted:
        return "knot"


# What is said by a word and what stands behind it.
WITH_MORE = {
    "tell": say_tell, "beat": say_beat, "stride": say_stride, "come": say_come, "lose": say_lose,
    "double": say_double, "put": say_put, "drop": say_drop, "rest": tell_rest, "way": tell_way, "near": tell_near,
    "waves": tell_waves,
}


def is_tell_text(text):
    """Whether the text has the form of what is told: a standing, perhaps with things behind it."""
    places, sign, things = text.partition(" to ")
    return are_numbers(places) and (sign == "" or are_numbers(things))


def has_form(word, text):
    """Whether the text has the form of what stands behind the word, one of those that have more."""
    if word == "tell":
        return is_tell_text(text)
    if word == "put":
        return is_rule_text(text)
    if word == "near":
        return is_want_text(text)
    if word in ("rest", "way", "waves"):
        return are_numbers(text)
    return is_number(text)


class Desk:
    """A hall, and the lines that are said to it."""

    def __init__(self, plan_text, standing_text):
        plan = read_plan(plan_text)
        self.hall = Hall(plan, read_standing(plan, standing_text))

    def say(self, line):
        """What is answered to the line, of anything; NoLine(line) of what is none by its form."""
        if not isinstance(line, str):
            raise NoLine(line)
        word, sign, text = line.partition(" ")
        if sign == "" and word in ALONE:
            action = ALONE[word]
            return action(self.hall)
        if word not in WITH_MORE or not has_form(word, text):
            raise NoLine(line)
        action = WITH_MORE[word]
        return action(self.hall, text)
