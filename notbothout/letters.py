"""Letters: what hands write to each other; and wishes, which the letters carry on."""

from notbothout.kinds import MOST_THINGS, is_whole


def is_count(thing):
    """Whether it, of anything, is a whole number from 0."""
    return is_whole(thing) and thing >= 0


def is_wish(thing):
    """Whether it, of anything, is a wish, and not None."""
    if not isinstance(thing, tuple) or len(thing) != 2:
        return False
    number, standing = thing
    if not is_whole(number) or number < 1:
        return False
    if not isinstance(standing, tuple) or not 1 <= len(standing) <= MOST_THINGS:
        return False
    return all([is_count(place) for place in standing])


def is_letter(thing):
    """Whether it, of anything, is a letter."""
    if not isinstance(thing, tuple) or len(thing) not in (2, 4) or not isinstance(thing[0], str):
        return False
    if len(thing) == 2:
        return thing[0] == "word" and is_wish(thing[1])
    word, rule, count, wish = thing
    if word not in ("ask", "leave") or not is_count(rule) or not is_count(count):
        return False
    return wish is None or is_wish(wish)


def wish_number(wish):
    """The number of a wish; 0, below all, of None."""
    return 0 if wish is None else wish[0]
