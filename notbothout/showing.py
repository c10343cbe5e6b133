"""How sides, rules and plans are written."""


def show_side(side):
    """A side's text."""
    thing, word, place = side
    return f"{thing} {word} {place}"


def show_rule(rule):
    """A rule's text."""
    return " / ".join([show_side(side) for side in rule])


def plan_rows(tops, rules):
    """The rows of the text of the plan that these make."""
    things = " ".join([str(top) for top in tops])
    return [f"things {things}"] + [f"rule {show_rule(rule)}" for rule in rules]
