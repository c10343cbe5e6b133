"""A plain hall of plain hands, by the words of [23] to [26]; and what tests of halls and desks draw."""

import copy

from notbothout.errors import BothError, Broken, NoBack, NoLetter, NoRule, NoStanding, NoThing
from notbothout.plans import Plan
from tests.plain import great_side, plainly_in, sides_of
from tests.plain_hand import PlainHand, first_count, rules_of
from tests.walks import track


def plain_door(good, here, goal):
    """Where one is at last who goes towards the goal by steps, each nearer to it."""
    while True:
        for thing, (a, b) in enumerate(zip(here, goal)):
            there = here[:thing] + (track(a, b)[1],) + here[thing + 1:] if a != b else None
            if there in good:
                here = there
                break
        else:
            return here


class PlainHall:
    """Each deed is done in place; what was ahead of it is kept as a whole copy."""

    def __init__(self, plan, standing):
        self.tops, self.ruled = plan.tops, dict(enumerate(plan.rules))
        self.hands = [PlainHand(thing, place, rules_of(plan, standing, thing)) for thing, place in enumerate(standing)]
        self.bag, self.mark, self.wishes, self.numbers, self.places = [], 0, 0, len(plan.rules), 0
        self.history = []

    def __len__(self):
        return len(self.history)

    def save(self):
        kept = {name: value for name, value in vars(self).items() if name != "history"}
        self.history.append(copy.deepcopy(kept))

    def send(self, rows):
        for to, letter in rows:
            self.bag.append((self.mark, to, letter))
            self.mark += 1
        return len(rows)

    def check_goal(self, goal):
        if type(goal) is not tuple or len(goal) != len(self.tops):
            raise NoStanding(goal)
        if not all(type(place) is int and 0 <= place <= top for place, top in zip(goal, self.tops)):
            raise NoStanding(goal)
        bad = tuple(k for k, rule in self.ruled.items() if not any(plainly_in(side, goal) for side in rule))
        if bad:
            raise Broken(bad)

    def is_thing(self, thing):
        return type(thing) is int and 0 <= thing < len(self.tops)

    def tell(self, goal, *, hands=None):
        self.check_goal(goal)
        things = tuple(range(len(self.tops))) if hands is None else hands
        if type(things) is not tuple or things == () or not all(self.is_thing(thing) for thing in things):
            raise NoThing(hands)
        if list(things) != sorted(set(things)):
            raise NoThing(hands)
        self.save()
        self.wishes += 1
        self.send([(thing, ("word", (self.wishes, goal))) for thing in things])
        return self.wishes

    def beat(self, thing):
        if not self.is_thing(thing):
            raise NoThing(thing)
        self.save()
        return self.send(self.hands[thing].beat())

    def stride(self, thing):
        if not self.is_thing(thing):
            raise NoThing(thing)
        self.save()
        return self.strode(thing)

    def strode(self, thing):
        many = self.hands[thing].stride()
        self.places += many
        return many

    def letter(self, mark):
        found = [row for row in self.bag if type(mark) is int and row[0] == mark]
        if not found:
            raise NoLetter(mark)
        self.save()
        return found[0]

    def come(self, mark):
        return self.came(self.letter(mark))

    def came(self, row):
        self.bag.remove(row)
        return self.send(self.hands[row[1]].hear(row[2]))

    def lose(self, mark):
        self.bag.remove(self.letter(mark))

    def double(self, mark):
        self.send([self.letter(mark)[1:]])
        return self.mark - 1

    def put(self, rule):
        if type(rule) is not tuple or len(rule) != 2 or not all(self.is_side(side) for side in rule):
            raise NoRule(rule)
        if len(self.ruled) >= 40:
            raise NoRule(rule)
        if not any(plainly_in(side, self.standing()) for side in rule):
            raise Broken((self.numbers,))
        self.save()
        number = self.numbers
        for thing in {side[0] for side in rule}:
            self.hands[thing].put(number, rule, first_count(rule, self.standing()))
        self.ruled[number] = rule
        self.numbers += 1
        return number

    def is_side(self, thing):
        if type(thing) is not tuple or len(thing) != 3 or not all(type(part) in (int, str) for part in thing):
            return False
        return thing in sides_of(self.tops)

    def drop(self, number):
        if type(number) is not int or number not in self.ruled:
            raise NoRule(number)
        self.save()
        for hand in self.hands:
            hand.drop(number)
        del self.ruled[number]

    def full_beat(self):
        self.save()
        return self.beaten()

    def beaten(self):
        ahead = copy.deepcopy([vars(hand) for hand in self.hands])
        for hand in self.hands:
            self.send(hand.beat())
        while self.bag:
            self.came(min(self.bag))
        for thing in range(len(self.tops)):
            self.strode(thing)
        return ahead != [vars(hand) for hand in self.hands]

    def settle(self, *, most=60):
        self.save()
        for many in range(most):
            if not self.beaten():
                return many + 1
        return most

    def plan(self):
        return Plan(self.tops, tuple(self.ruled.values()))

    def numbered(self):
        return tuple(self.ruled.items())

    def standing(self):
        return tuple(hand.place for hand in self.hands)

    def heard(self):
        return tuple(hand.wish and hand.wish[0] for hand in self.hands)

    def shared(self):
        """(number, rule, the two counts) of each shared rule."""
        for number, rule in self.ruled.items():
            if rule[0][0] != rule[1][0]:
                yield number, rule, [self.hands[side[0]].row(number)[2] for side in rule]

    def leaves(self):
        return tuple((number, rule[counts[0] % 2][0] if counts[0] == counts[1] else None)
                     for number, rule, counts in self.shared())

    def counts(self):
        return tuple((number, max(counts)) for number, rule, counts in self.shared())

    def under_way(self):
        return tuple(self.bag)

    def waiting(self):
        return tuple((hand.thing, number) for hand in self.hands for number in hand.lacks())

    def gone(self):
        return self.places

    def back(self):
        if not self.history:
            raise NoBack("nothing")
        vars(self).update(self.history.pop())


def everything(hall):
    """All that a hall tells without a deed."""
    return (hall.plan(), hall.numbered(), hall.standing(), hall.heard(), hall.leaves(), hall.counts(),
            hall.under_way(), hall.waiting(), hall.gone(), len(hall))


def told_by(call, *told, **named):
    """What a call tells, or the class and the values of its refusal."""
    try:
        return "told", call(*told, **named)
    except BothError as refused:
        return "refused", type(refused), [vars(refused)[name] for name in vars(refused)]


def do(hall, deed):
    """A deed as [26] tells it, or ("back",); what it tells."""
    word, *parts = deed
    if word == "tell":
        return told_by(hall.tell, parts[0], hands=parts[1])
    if word == "settle":
        return told_by(hall.settle, most=parts[0])
    return told_by(getattr(hall, word), *parts)


def drawn_deed(hall, good, dice):
    """A deed that may be done in the hall, more often than not."""
    many, marks = len(hall.plan()), [row[0] for row in hall.under_way()]
    word = dice.choice("tell beat beat beat stride stride come come come come come come lose double put drop".split())
    if word == "tell":
        things = tuple(sorted(dice.sample(range(many), dice.randrange(1, many + 1))))
        return word, dice.choice(good), dice.choice((None, things, things))
    if word in ("beat", "stride"):
        return word, dice.randrange(many)
    if word in ("come", "lose", "double"):
        return word, dice.choice(marks) if marks else dice.randrange(9)
    if word == "put":
        tops = hall.plan().tops
        return word, (great_side(tops, dice), great_side(tops, dice))
    numbers = [number for number, rule in hall.numbered()]
    return word, dice.choice(numbers) if numbers and dice.randrange(2) else dice.randrange(30)


def odd_deed(hall, good, dice, odd):
    """A deed of any sort with anything in it, or one that is done rarely."""
    thing = dice.choice(odd)
    return dice.choice([
        ("tell", thing, None), ("tell", dice.choice(good), thing), ("beat", thing), ("stride", thing), ("come", thing),
        ("lose", thing), ("double", thing), ("put", thing), ("drop", thing), ("full_beat",), ("full_beat",),
        ("settle", dice.randrange(4)), ("settle", 60), ("back",), ("back",), ("back",),
        ("tell", tuple(top - place for top, place in zip(hall.plan().tops, hall.standing())), None),
    ])
