"""How far standings are apart, and what lies between them; of any standings, good or not."""


def far(one, other):
    """How far their places are apart, all together."""
    return sum([abs(here - there) for here, there in zip(one, other)])


def middle(one, two, three):
    """Of each thing the middle one of the three places."""
    return tuple([sorted(places)[1] for places in zip(one, two, three)])


def is_between(one, x, other):
    """Whether each place of x lies between those of the two others, or is one of them."""
    return all([min(a, b) <= place <= max(a, b) for a, place, b in zip(one, x, other)])
