"""How what is written is read: just so as it is shown, else it is refused."""

from notbothout.errors import NoPlan, NoText
from notbothout.kinds import WORDS, is_rule_of
from notbothout.letters import is_letter
from notbothout.plans import Plan
from notbothout.showing import NOTHING
from notbothout.standings import is_standing
from notbothout.wants import is_want

MOST_FIGURES = 30


def is_number(word):
    """Whether the word has the form of a number."""
    if not word.isascii() or not word.isdigit() or len(word) > MOST_FIGURES:
        return False
    return word == "0" or not word.startswith("0")


def are_numbers(text):
    """Whether the text has the form of numbers, one at least."""
    return all([is_number(word) for word in text.split(" ")])


def is_side_text(text):
    """Whether the text has the form of a side, whatever its numbers are worth."""
    words = text.split(" ")
    return len(words) == 3 and is_number(words[0]) and words[1] in WORDS and is_number(words[2])


def is_rule_text(text):
    """Whether the text has the form of a rule, whatever its numbers are worth."""
    sides = text.split(" / ")
    return len(sides) == 2 and all([is_side_text(side) for side in sides])


def is_want_text(text):
    """Whether the text has the form of a want, of however many sides."""
    return text == NOTHING or all([is_side_text(side) for side in text.split(", ")])


def numbers_in(text):
    """The numbers that the text, which has their form, tells."""
    return tuple([int(word) for word in text.split(" ")])


def side_in(text):
    """The side that the text, which has its form, tells."""
    thing, word, place = text.split(" ")
    return int(thing), word, int(place)


def rule_in(text):
    """The rule that the text, which has its form, tells."""
    return tuple([side_in(side) for side in text.split(" / ")])


def want_in(text):
    """The want that the text, which has its form, tells."""
    return () if text == NOTHING else tuple([side_in(side) for side in text.split(", ")])


def read_rule(plan, text):
    """The rule of the plan that the text, of anything, tells; NoText(0) of others."""
    if not isinstance(text, str) or not is_rule_text(text) or not is_rule_of(plan.tops, rule_in(text)):
        raise NoText(0)
    return rule_in(text)


def read_standing(plan, text):
    """The standing of the plan that the text, of anything, tells; NoText(0) of others."""
    if not isinstance(text, str) or not are_numbers(text) or not is_standing(plan, numbers_in(text)):
        raise NoText(0)
    return numbers_in(text)


def read_want(plan, text):
    """The want of the plan that the text, of anything, tells; NoText(0) of others."""
    if not isinstance(text, str) or not is_want_text(text) or not is_want(plan, want_in(text)):
        raise NoText(0)
    return want_in(text)


def number_in(word):
    """The number that the word tells; None, which no letter has, of what is none."""
    return int(word) if is_number(word) else None


def wish_in(word):
    """The wish that the word tells, perhaps None; what is none by its numbers, which no letter has, of others."""
    if word == NOTHING:
        return None
    number, sign, places = word.partition("@")
    return number_in(number), tuple([number_in(place) for place in places.split(".")])


def read_letter(text):
    """The letter that the text, of anything, tells; NoText(0) of others."""
    if not isinstance(text, str):
        raise NoText(0)
    words = text.split(" ")
    numbers = [number_in(word) for word in words[1:-1]]
    letter = (words[0], *numbers, wish_in(words[-1]))
    if not is_letter(letter):
        raise NoText(0)
    return letter


def is_plan_row(at, row):
    """Whether the row has the form that the row of that number has in a plan's text."""
    word, sign, rest = row.partition(" ")
    if at == 0:
        return word == "things" and are_numbers(rest)
    return word == "rule" and is_rule_text(rest)


def read_plan(text):
    """The plan that the text, of anything, tells; NoText(row) of others."""
    if not isinstance(text, str):
        raise NoText(0)
    rows = text.split("\n")
    for at, row in enumerate(rows):
        if not is_plan_row(at, row):
            raise NoText(at)
    told = [row.partition(" ")[2] for row in rows]
    try:
        return Plan(numbers_in(told[0]), tuple([rule_in(rule) for rule in told[1:]]))
    except NoPlan:
        raise NoText(len(rows)) from None
