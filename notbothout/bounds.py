"""Which places good standings with a want give, or a paper that there is none."""

from notbothout.errors import NoGood
from notbothout.sides import bars, chain_in, chain_to, is_chain, other_side, reached
from notbothout.wants import follows


def is_barred(plan, want, thing):
    """Whether it is a chain from a side of the want to one that bars a side of the want."""
    if not is_chain(plan, thing) or thing[0] not in want:
        return False
    return any([bars(plan, thing[-1], side) for side in want])


def is_ring(plan, one, two):
    """Whether these are a chain from a side to its other one, and a chain back."""
    if not is_chain(plan, one) or not is_chain(plan, two):
        return False
    return one[-1] == other_side(plan, one[0]) and two[0] == one[-1] and two[-1] == one[0]


def shows_none(plan, want, thing):
    """Whether it, of anything, is a paper that no good standing has the want."""
    if not isinstance(thing, tuple) or len(thing) not in (2, 3) or not isinstance(thing[0], str):
        return False
    if len(thing) == 2:
        return thing[0] == "barred" and is_barred(plan, want, thing[1])
    return thing[0] == "ring" and is_ring(plan, thing[1], thing[2])


def barred_paper(plan, want):
    """A paper of the form barred; None where there is none."""
    ahead = reached(plan, want)
    for side in ahead:
        if any([bars(plan, side, wanted) for wanted in want]):
            return "barred", chain_in(ahead, side)
    return None


def rule_sides(plan):
    """All sides of rules that are not in everywhere, each once."""
    sides = {side: True for rule in plan.rules for side in rule}
    return [side for side in sides if other_side(plan, side) is not None]


def turning(plan, side):
    """A chain to the side from its other one, by which it is in at all good standings; () where there is none."""
    return chain_to(plan, (other_side(plan, side),), side)


def ring_paper(plan):
    """A paper of the form ring; None where there is none."""
    # Where any side and its other one lead to each other, a side of a rule and its other one do so, too: these are
    # enough to look at, however many places there are.
    for side in rule_sides(plan):
        back = turning(plan, side)
        there = turning(plan, other_side(plan, side)) if back != () else ()
        if there != ():
            return "ring", there, back
    return None


def none_paper(plan, want):
    """A paper that no good standing has the want; None where some has it."""
    paper = barred_paper(plan, want)
    if paper is None:
        paper = ring_paper(plan)
    return paper


def forced(plan):
    """The sides of rules that are in at all good standings, whatever is wanted."""
    return tuple([side for side in rule_sides(plan) if turning(plan, side) != ()])


def bounds(plan, want=()):
    """("bounds", rows), the least and greatest place of each thing; ("none", paper) where no good one has the want."""
    paper = none_paper(plan, want)
    if paper is not None:
        return "none", paper
    # As rules have but two sides, a side that neither follows nor is forced is out at some good standing.
    return "bounds", follows(plan, want + forced(plan))


def a_good(plan, want=()):
    """A good standing that has the want; NoGood(paper) where none has it."""
    paper = none_paper(plan, want)
    if paper is not None:
        raise NoGood(paper)
    held = want + forced(plan)
    # Some good standing gives each thing its least place; held there, the next one is asked.
    for thing in range(len(plan.tops)):
        low = follows(plan, held)[thing][0]
        held = held + ((thing, "to", low),)
    return tuple([low for low, high in follows(plan, held)])
