"""Halls: a hand for each thing of a plan, the letters under way between them, and what is done there and taken back."""

from notbothout.errors import Broken, NoBack, NoDeed, NoPlan, NoRule, NoThing
from notbothout.going import door
from notbothout.kinds import MOST_RULES, is_place, is_rule_of, is_whole
from notbothout.plans import Plan
from notbothout.standings import is_kept
from notbothout.states import (
    add_rule, beat_fully, check_standing, copied, deliver, find_letter, first_state, numbered_rules, plan_of,
    remove_rule, send, send_all, shared_counts, standing_of, stride_of,
)
from notbothout.trials import do_deed, first_wrong

MOST = 60


def are_things(many, thing):
    """Whether it, of anything, is a rising tuple, not (), of things of so many."""
    if not isinstance(thing, tuple) or len(thing) == 0:
        return False
    if not all([is_place(many - 1, number) for number in thing]):
        return False
    return all([number < following for number, following in zip(thing, thing[1:])])


def leave_holder(rule, first, second):
    """The thing that has the rule's leave by both counts; None where these are unlike."""
    if first != second:
        return None
    return rule[first % 2][0]


class Hall:
    """What is so now, and what was so ahead of each deed that stands; neither is ever changed, but exchanged."""

    def __init__(self, plan, standing):
        if not isinstance(plan, Plan):
            raise NoPlan("plan")
        check_standing(plan, tuple(enumerate(plan.rules)), standing)
        self.now = first_state(plan, standing)
        self.past = ()

    def __len__(self):
        return len(self.past)

    def keep(self, state):
        """A deed is done: it is so now."""
        self.past = (*self.past, self.now)
        self.now = state

    def check_goal(self, goal):
        """NoStanding(goal), of anything, and Broken(rules), by the rules as they are."""
        check_standing(self.plan(), self.numbered(), goal)

    def check_thing(self, thing):
        """NoThing(thing), of anything."""
        if not is_place(len(self.now.hands) - 1, thing):
            raise NoThing(thing)

    def tell(self, goal, *, hands=None):
        """A wish is told to the hands, None: all: its number."""
        self.check_goal(goal)
        many = len(self.now.hands)
        things = tuple(range(many)) if hands is None else hands
        if not are_things(many, things):
            raise NoThing(hands)
        state = copied(self.now)
        state.last_wish += 1
        send_all(state, [(thing, ("word", (state.last_wish, goal))) for thing in things])
        self.keep(state)
        return state.last_wish

    def beat(self, thing):
        """What the thing's hand writes is under way: how many letters."""
        self.check_thing(thing)
        state = copied(self.now)
        many = send_all(state, state.hands[thing].beat())
        self.keep(state)
        return many

    def stride(self, thing):
        """The thing's hand strides: how many places."""
        self.check_thing(thing)
        state = copied(self.now)
        many = stride_of(state, thing)
        self.keep(state)
        return many

    def come(self, mark):
        """The letter comes to its hand: how many answers are under way."""
        at = find_letter(self.now, mark)
        state = copied(self.now)
        many = deliver(state, at)
        self.keep(state)
        return many

    def lose(self, mark):
        """The letter is under way no more."""
        at = find_letter(self.now, mark)
        state = copied(self.now)
        del state.letters[at]
        self.keep(state)

    def double(self, mark):
        """The letter is under way once more: the mark of the other one."""
        at = find_letter(self.now, mark)
        state = copied(self.now)
        same, to, letter = state.letters[at]
        fresh = send(state, to, letter)
        self.keep(state)
        return fresh

    def put(self, rule):
        """A rule more: its number."""
        now = self.now
        if not is_rule_of(now.tops, rule) or len(now.rules) == MOST_RULES:
            raise NoRule(rule)
        if not is_kept(rule, self.standing()):
            raise Broken((now.next_rule,))
        state = copied(now)
        number = add_rule(state, rule)
        self.keep(state)
        return number

    def drop(self, number):
        """A rule fewer, for all."""
        if not is_whole(number) or number not in self.now.rules:
            raise NoRule(number)
        state = copied(self.now)
        remove_rule(state, number)
        self.keep(state)

    def full_beat(self):
        """All hands beat, all letters come, all hands stride: whether a wish, a count or a place is otherwise."""
        state = copied(self.now)
        changed = beat_fully(state)
        self.keep(state)
        return changed

    def settle(self, *, most=MOST):
        """Full beats till one changes nothing, or so many: how many."""
        state = copied(self.now)
        many = 0
        changed = True
        while changed and many < most:
            changed = beat_fully(state)
            many += 1
        self.keep(state)
        return many

    def plan(self):
        """The plan of the tops and the rules as they are."""
        return plan_of(self.now)

    def numbered(self):
        """The rising tuple of (number, rule)."""
        return numbered_rules(self.now)

    def standing(self):
        """Where all things are."""
        return standing_of(self.now)

    def heard(self):
        """For each thing the number of its hand's wish, or None."""
        return tuple([None if hand.wish is None else hand.wish[0] for hand in self.now.hands])

    def leaves(self):
        """The rising tuple of (number, thing) of the shared rules: who has the leave by both counts, or None."""
        rows = shared_counts(self.now)
        return tuple([(number, leave_holder(rule, first, second)) for number, rule, first, second in rows])

    def counts(self):
        """The rising tuple of (number, greatest count) of the shared rules."""
        return tuple([(number, max(first, second)) for number, rule, first, second in shared_counts(self.now)])

    def under_way(self):
        """The rising tuple of letters (mark, to, letter) under way."""
        return tuple(self.now.letters)

    def waiting(self):
        """The rising tuple of (thing, number) of all leaves that hands lack."""
        return tuple([(hand.thing, number) for hand in self.now.hands for number in hand.lacks()])

    def rest(self, goal):
        """Where all comes to rest if that goal is wished: the door to it."""
        self.check_goal(goal)
        return door(self.plan(), self.standing(), goal)

    def gone(self):
        """How many places all hands went."""
        return self.now.all_gone

    def back(self):
        """The last deed that stands is taken back."""
        if len(self.past) == 0:
            raise NoBack("no deed stands")
        self.now = self.past[-1]
        self.past = self.past[:-1]

    def trial(self, deeds, ask):
        """What ask tells of this hall behind the deeds; all is as ahead behind it."""
        at = first_wrong(deeds)
        if at is not None:
            raise NoDeed(at)
        past, now = self.past, self.now
        try:
            for deed in deeds:
                do_deed(self, deed)
            return ask(self)
        finally:
            self.past, self.now = past, now
