"""Of which kind a thing is that may be anything; plans and standings both rest on it."""

MOST_THINGS = 12
MOST_RULES = 40
BEYOND_THIRTY_FIGURES = 10 ** 30
WORDS = ("from", "to")


def is_whole(thing):
    """Whether it is a whole number."""
    # Python counts True and False among the integers.
    return isinstance(thing, int) and not isinstance(thing, bool)


def are_wholes(thing, many):
    """Whether it is a tuple of so many whole numbers."""
    return isinstance(thing, tuple) and len(thing) == many and all([is_whole(part) for part in thing])


def is_place(top, thing):
    """Whether it is a whole number from 0 to the top."""
    return is_whole(thing) and 0 <= thing <= top


def are_tops(thing):
    """Whether it is what a plan takes as its tops."""
    if not isinstance(thing, tuple) or not 1 <= len(thing) <= MOST_THINGS:
        return False
    return all([is_place(BEYOND_THIRTY_FIGURES - 1, top) for top in thing])


def is_side_of(tops, thing):
    """Whether it is a side of things with these tops."""
    if not isinstance(thing, tuple) or len(thing) != 3:
        return False
    number, word, place = thing
    if not is_place(len(tops) - 1, number):
        return False
    return isinstance(word, str) and word in WORDS and is_place(tops[number], place)


def are_sides_of(tops, thing):
    """Whether it is a tuple, perhaps (), of sides."""
    return isinstance(thing, tuple) and all([is_side_of(tops, side) for side in thing])


def is_rule_of(tops, thing):
    """Whether it is a pair of sides."""
    return are_sides_of(tops, thing) and len(thing) == 2


def are_rules_of(tops, thing):
    """Whether it is what a plan with these tops takes as its rules."""
    if not isinstance(thing, tuple) or len(thing) > MOST_RULES:
        return False
    return all([is_rule_of(tops, rule) for rule in thing])
