"""The nearest good standing that has a want, and the chains that show that it is."""

from notbothout.bounds import none_paper
from notbothout.errors import NoGood
from notbothout.sides import chain_to, is_chain
from notbothout.standings import is_good, is_standing
from notbothout.wants import follows, has


def pulled(plan, standing, want):
    """Where the standing comes when each thing goes just as far as the want, which some good one has, leads it."""
    # That is good: a side that goes out so is barred by what follows of the want; then the other side of its rule
    # follows, too.
    return tuple([max(low, min(place, high)) for place, (low, high) in zip(standing, follows(plan, want))])


def nearest(plan, standing, want):
    """The good standing that has the want and lies between this one and each good one that has it."""
    paper = none_paper(plan, want)
    if paper is not None:
        raise NoGood(paper)
    return pulled(plan, standing, want)


def come_to(thing, here, there):
    """The side by which the thing, coming from here, has come there."""
    return thing, "from" if there > here else "to", there


def nearest_paper(plan, standing, want):
    """For each thing () where it stays, else a chain from the want to the side by which it has come."""
    rows = []
    for thing, (here, there) in enumerate(zip(standing, nearest(plan, standing, want))):
        rows.append(() if here == there else chain_to(plan, want, come_to(thing, here, there)))
    return tuple(rows)


def is_pull(plan, want, goal, thing):
    """Whether it, of anything, is a chain from a side of the want to the goal."""
    return is_chain(plan, thing) and thing[0] in want and thing[-1] == goal


def are_pulls(plan, standing, want, new, thing):
    """Whether it, of anything, has () for each thing that stays, and a chain to its new place for each other one."""
    if not isinstance(thing, tuple) or len(thing) != len(new):
        return False
    for number, (here, there) in enumerate(zip(standing, new)):
        row = thing[number]
        if here == there and not (isinstance(row, tuple) and len(row) == 0):
            return False
        if here != there and not is_pull(plan, want, come_to(number, here, there), row):
            return False
    return True


def shows_nearest(plan, standing, want, new, thing):
    """Whether new, of anything, is a good standing that has the want, and thing, of anything, such chains to it."""
    if not is_standing(plan, new) or not is_good(plan, new) or not has(want, new):
        return False
    return are_pulls(plan, standing, want, new, thing)
