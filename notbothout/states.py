"""States: all that a hall is at a moment. A deed works at a copy, so that what was ahead of it stays as it was."""

from notbothout.errors import Broken, NoLetter, NoStanding
from notbothout.hands import Hand, is_shared
from notbothout.kinds import is_whole
from notbothout.plans import Plan
from notbothout.standings import is_in, is_kept, is_standing


class State:
    """The tops, the rules by their numbers, a hand for each thing, and the letters (mark, to, letter) under way."""

    def __init__(self, tops):
        self.tops = tops
        self.rules = {}
        self.hands = []
        self.letters = []
        self.next_mark = 0
        self.next_rule = 0
        self.last_wish = 0
        self.all_gone = 0


def hand_again(hand):
    """Another hand that is as this one."""
    other = Hand(hand.thing, hand.place, ())
    other.wish = hand.wish
    other.held = dict(hand.held)
    other.tally = dict(hand.tally)
    return other


def copied(state):
    """Another state that is as this one."""
    other = State(state.tops)
    other.rules = dict(state.rules)
    other.hands = [hand_again(hand) for hand in state.hands]
    other.letters = list(state.letters)
    other.next_mark = state.next_mark
    other.next_rule = state.next_rule
    other.last_wish = state.last_wish
    other.all_gone = state.all_gone
    return other


def numbered_rules(state):
    """The rising tuple of (number, rule)."""
    return tuple([(number, state.rules[number]) for number in sorted(state.rules)])


def plan_of(state):
    """The plan of the tops and the rules as they are."""
    return Plan(state.tops, tuple([rule for number, rule in numbered_rules(state)]))


def standing_of(state):
    """Where all things are."""
    return tuple([hand.place for hand in state.hands])


def check_standing(plan, numbered, thing):
    """NoStanding(thing), of anything that is none; Broken(rules), by their numbers, of one that isn't good."""
    if not is_standing(plan, thing):
        raise NoStanding(thing)
    numbers = tuple([number for number, rule in numbered if not is_kept(rule, thing)])
    if numbers != ():
        raise Broken(numbers)


def things_of(rule):
    """The things whose sides the rule has, each once."""
    return sorted({rule[0][0], rule[1][0]})


def first_count(rule, standing):
    """The count with which a rule begins: by it who has its side out has the leave."""
    return 1 if is_shared(rule) and not is_in(rule[1], standing) else 0


def add_rule(state, rule):
    """A rule more, which the standing keeps: its number."""
    number = state.next_rule
    count = first_count(rule, standing_of(state))
    for thing in things_of(rule):
        state.hands[thing].put(number, rule, count)
    state.rules[number] = rule
    state.next_rule = number + 1
    return number


def remove_rule(state, number):
    """A rule fewer, for all."""
    for thing in things_of(state.rules[number]):
        state.hands[thing].drop(number)
    del state.rules[number]


def first_state(plan, standing):
    """The state of a hall at its beginning."""
    state = State(plan.tops)
    state.hands = [Hand(thing, place, ()) for thing, place in enumerate(standing)]
    for rule in plan.rules:
        add_rule(state, rule)
    return state


def send(state, to, letter):
    """The letter is under way: its mark."""
    mark = state.next_mark
    state.letters.append((mark, to, letter))
    state.next_mark = mark + 1
    return mark


def send_all(state, rows):
    """The letters (to, letter) are under way: how many."""
    for to, letter in rows:
        send(state, to, letter)
    return len(rows)


def find_letter(state, mark):
    """Where among the letters the one with that mark is; NoLetter(mark), of anything that is no such mark."""
    marks = [row[0] for row in state.letters]
    if not is_whole(mark) or mark not in marks:
        raise NoLetter(mark)
    return marks.index(mark)


def deliver(state, at):
    """That letter comes to its hand, whose answers are under way: how many."""
    mark, to, letter = state.letters.pop(at)
    return send_all(state, state.hands[to].hear(letter))


def stride_of(state, thing):
    """The thing's hand strides: how many places."""
    many = state.hands[thing].stride()
    state.all_gone += many
    return many


def hand_values(state):
    """The place, the wish and the counts of each hand."""
    return [(hand.place, hand.wish, dict(hand.tally)) for hand in state.hands]


def beat_fully(state):
    """All hands beat, all letters come, all hands stride: whether a hand is otherwise than ahead."""
    ahead = hand_values(state)
    for hand in state.hands:
        send_all(state, hand.beat())
    while len(state.letters) > 0:
        # Letters are kept by rising marks: the least one is the first.
        deliver(state, 0)
    for thing in range(len(state.hands)):
        stride_of(state, thing)
    return hand_values(state) != ahead


def shared_counts(state):
    """The rising list of (number, rule, count, other), the counts of the first and of the second side's hand."""
    rows = []
    for number, rule in numbered_rules(state):
        if is_shared(rule):
            first, second = [state.hands[side[0]].count_of(number) for side in rule]
            rows.append((number, rule, first, second))
    return rows
