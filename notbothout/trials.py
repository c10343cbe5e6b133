"""Trials: the deeds that a hall may be asked to try, told as tuples."""

from notbothout.letters import is_count

PARTS = {
    "tell": 3, "beat": 2, "stride": 2, "come": 2, "lose": 2, "double": 2, "put": 2, "drop": 2, "full_beat": 1,
    "settle": 2,
}


def is_deed(thing):
    """Whether it, of anything, has the form of a deed; the parts that a hall can refuse may be anything."""
    if not isinstance(thing, tuple) or len(thing) == 0 or not isinstance(thing[0], str):
        return False
    if thing[0] not in PARTS or len(thing) != PARTS[thing[0]]:
        return False
    return thing[0] != "settle" or is_count(thing[1])


def first_wrong(thing):
    """The number of the first that is no deed, 0 of what is no tuple; None where all are deeds."""
    if not isinstance(thing, tuple):
        return 0
    for at, deed in enumerate(thing):
        if not is_deed(deed):
            return at
    return None


def do_with_letter(hall, word, mark):
    """The deed that is done with a letter under way."""
    if word == "come":
        hall.come(mark)
    elif word == "lose":
        hall.lose(mark)
    else:
        hall.double(mark)


def do_with_rule(hall, word, told):
    """The deed that is done with a rule, or with its number."""
    if word == "put":
        hall.put(told)
    else:
        hall.drop(told)


def do_with_thing(hall, word, thing):
    """The deed that is done by one hand."""
    if word == "beat":
        hall.beat(thing)
    else:
        hall.stride(thing)


def do_deed(hall, deed):
    """The deed is done in the hall."""
    word = deed[0]
    if word == "tell":
        hall.tell(deed[1], hands=deed[2])
    elif word == "full_beat":
        hall.full_beat()
    elif word == "settle":
        hall.settle(most=deed[1])
    elif word in ("come", "lose", "double"):
        do_with_letter(hall, word, deed[1])
    elif word in ("put", "drop"):
        do_with_rule(hall, word, deed[1])
    else:
        do_with_thing(hall, word, deed[1])
