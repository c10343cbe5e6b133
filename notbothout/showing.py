"""How sides, rules, standings, wants, ways, letters and plans are written."""

NOTHING = "-"


def show_side(side):
    """A side's text."""
    thing, word, place = side
    return f"{thing} {word} {place}"


def show_rule(rule):
    """A rule's text."""
    return " / ".join([show_side(side) for side in rule])


def show_standing(standing):
    """A standing's text."""
    return " ".join([str(place) for place in standing])


def show_want(want):
    """A want's text."""
    return ", ".join([show_side(side) for side in want]) if want != () else NOTHING


def show_way(way):
    """A way's text."""
    return " ".join([f"{thing}:{place}" for thing, place in way]) if way != () else NOTHING


def show_wish(wish):
    """The text of a wish, perhaps None."""
    if wish is None:
        return NOTHING
    number, standing = wish
    places = ".".join([str(place) for place in standing])
    return f"{number}@{places}"


def show_letter(letter):
    """A letter's text."""
    words = [str(part) for part in letter[:-1]] + [show_wish(letter[-1])]
    return " ".join(words)


def plan_rows(tops, rules):
    """The rows of the text of the plan that these make."""
    return [f"things {show_standing(tops)}"] + [f"rule {show_rule(rule)}" for rule in rules]


def show_plan(plan):
    """A plan's text."""
    return "\n".join(plan_rows(plan.tops, plan.rules))
