"""A plain hand that goes place by place, by the words of [20] to [22]; and what tests of hands and halls draw."""

import random

from notbothout.plans import Plan
from tests.plain import plainly_good, plainly_in, sides_of
from tests.walks import track


def side_in(side, place):
    """Whether the side is in where its thing is at that place."""
    return place >= side[2] if side[1] == "from" else place <= side[2]


def number_of(wish):
    return -1 if wish is None else wish[0]


def first_count(rule, standing):
    """The count that a rule begins with in a hall."""
    return int(rule[0][0] != rule[1][0] and not plainly_in(rule[1], standing))


class PlainHand:
    """A hand that keeps its rules as rows [number, rule, count]."""

    def __init__(self, thing, place, rules):
        self.thing, self.place, self.wish = thing, place, None
        self.rows = sorted([list(row) for row in rules])

    def row(self, number):
        """The row of a shared rule; None where there is none."""
        return next((row for row in self.shared() if row[0] == number), None)

    def shared(self):
        return [row for row in self.rows if {side[0] for side in row[1]} != {self.thing}]

    def side(self, row):
        return [side for side in row[1] if side[0] == self.thing][0]

    def other(self, row):
        return [side[0] for side in row[1] if side[0] != self.thing][0]

    def has_leave(self, number):
        rule, count = self.row(number)[1:]
        return rule[count % 2][0] == self.thing

    def is_let(self, place):
        for row in self.rows:
            if row not in self.shared():
                if not any(side_in(side, place) for side in row[1]):
                    return False
            elif not side_in(self.side(row), place) and not self.has_leave(row[0]):
                return False
        return True

    def line(self):
        """The places towards the wished one, its own left out."""
        return [] if self.wish is None else track(self.place, self.wish[1][self.thing])[1:]

    def stride(self):
        many = 0
        for place in self.line():
            if not self.is_let(place):
                break
            self.place = place
            many += 1
        return many

    def lacks(self):
        ahead = self.line()[:1]
        return tuple(row[0] for row in self.shared()
                     for place in ahead if not self.has_leave(row[0]) and not side_in(self.side(row), place))

    def beat(self):
        asks = [(self.other(self.row(k)), ("ask", k, self.row(k)[2], self.wish)) for k in self.lacks()]
        things = sorted({self.other(row) for row in self.shared()}) if self.wish else []
        return tuple(asks + [(thing, ("word", self.wish)) for thing in things])

    def hear(self, letter):
        wish = letter[-1]
        if number_of(wish) > number_of(self.wish):
            self.wish = wish
        row = self.row(letter[1]) if letter[0] != "word" else None
        if row is None:
            return ()
        if letter[2] > row[2]:
            row[2] = letter[2]
        if letter[0] == "leave" or number_of(wish) < number_of(self.wish):
            return ()
        if row[2] == letter[2] and self.has_leave(row[0]) and side_in(self.side(row), self.place):
            row[2] += 1
        elif row[2] == letter[2]:
            return ()
        return ((self.other(row), ("leave", row[0], row[2], self.wish)),)

    def put(self, number, rule, count):
        self.rows = sorted([*self.rows, [number, rule, count]])

    def drop(self, number):
        self.rows = [row for row in self.rows if row[0] != number]


def kept_plans(many, seed, things=4, top=5, most_rules=8):
    """So many (plan, standing, dice): small plans with at least one good standing, which is told, more shared rules."""
    dice = random.Random(seed)
    while many > 0:
        tops = tuple(dice.randrange(1, top + 1) for t in range(dice.randrange(2, things + 1)))
        standing = tuple(dice.randrange(top + 1) for top in tops)
        rules = []
        for k in range(dice.randrange(1, 4 * most_rules)):
            rule = dice.choice(sides_of(tops)), dice.choice(sides_of(tops))
            own = rule[0][0] == rule[1][0]
            if any(plainly_in(side, standing) for side in rule) and (not own or dice.randrange(3) == 0):
                rules.append(rule)
        plan = Plan(tops, tuple(rules[:most_rules]))
        assert plainly_good(plan, standing)
        yield plan, standing, dice
        many -= 1


def rules_of(plan, standing, thing):
    """What a hall hands to the hand of the thing as its rules."""
    rows = [(k, rule, first_count(rule, standing)) for k, rule in enumerate(plan.rules)]
    return tuple(row for row in rows if thing in (row[1][0][0], row[1][1][0]))
