"""Hands: each moves one thing, sees nothing but its own, and keeps a count of each rule that it shares."""

from notbothout.errors import NoLetter, NoRule
from notbothout.kinds import is_whole
from notbothout.letters import is_letter, wish_number


def is_shared(rule):
    """Whether the rule's sides are of two things."""
    return rule[0][0] != rule[1][0]


def own_side(rule, thing):
    """The thing's side of a rule that it shares."""
    return rule[0] if rule[0][0] == thing else rule[1]


def other_thing(rule, thing):
    """The thing with which it shares the rule."""
    return rule[1][0] if rule[0][0] == thing else rule[0][0]


def out_span(side, low, high):
    """The least and greatest place from low to high by which the side is out; where none is, least above."""
    word, place = side[1], side[2]
    if word == "from":
        return low, min(high, place - 1)
    return max(low, place + 1), high


def is_out_at(side, place):
    """Whether the side is out where its thing is at that place."""
    least, most = out_span(side, place, place)
    return least <= most


class Hand:
    """The hand of one thing, with its place, the greatest wish that it heard, and its rules."""

    def __init__(self, thing, place, rules):
        self.thing = thing
        self.place = place
        self.wish = None
        self.held = {number: rule for number, rule, count in rules}
        self.tally = {number: count for number, rule, count in rules}

    def shares(self, number):
        """Whether it, of anything, is the number of a rule that this hand shares."""
        return is_whole(number) and number in self.held and is_shared(self.held[number])

    def shared(self):
        """The rising list of the numbers of the rules that it shares."""
        return [number for number in sorted(self.held) if is_shared(self.held[number])]

    def count_of(self, number):
        """Its count of a shared rule; NoRule(number) of anything else."""
        if not self.shares(number):
            raise NoRule(number)
        return self.tally[number]

    def has_leave(self, number):
        """Whether it has the leave of a shared rule by its count; NoRule(number) of anything else."""
        even = self.count_of(number) % 2 == 0
        return even == (self.held[number][0][0] == self.thing)

    def shut_span(self, number, low, high):
        """The least and greatest place from low to high that isn't let by the rule; where none is, least above."""
        rule = self.held[number]
        if not is_shared(rule):
            least, most = out_span(rule[0], low, high)
            return out_span(rule[1], least, most)
        if self.has_leave(number):
            return low, low - 1
        return out_span(own_side(rule, self.thing), low, high)

    def shut_spans(self, low, high):
        """The least and greatest place from low to high that isn't let, of each rule that shuts one."""
        spans = [self.shut_span(number, low, high) for number in self.held]
        return [(least, most) for least, most in spans if least <= most]

    def wished_place(self):
        """Where it is wished to be; where it is, without a wish."""
        return self.place if self.wish is None else self.wish[1][self.thing]

    def stride(self):
        """It goes towards its wished place as far as is let: how many places."""
        here, goal = self.place, self.wished_place()
        # Places are not gone through one by one: lines are too long for that.
        if goal > here:
            self.place = min([least - 1 for least, most in self.shut_spans(here + 1, goal)] + [goal])
        elif goal < here:
            self.place = max([most + 1 for least, most in self.shut_spans(goal, here - 1)] + [goal])
        return abs(self.place - here)

    def lacks(self):
        """The rising tuple of the numbers of the rules whose leave it lacks for its next place."""
        here, goal = self.place, self.wished_place()
        if goal == here:
            return ()
        there = here + 1 if goal > here else here - 1
        lacked = [number for number in self.shared() if not self.has_leave(number)]
        return tuple([number for number in lacked if is_out_at(own_side(self.held[number], self.thing), there)])

    def beat(self):
        """The letters (to, letter) that it writes by itself: an ask for each leave that it lacks, and its wish."""
        found = []
        for number in self.lacks():
            found.append((other_thing(self.held[number], self.thing), ("ask", number, self.tally[number], self.wish)))
        if self.wish is not None:
            things = [other_thing(self.held[number], self.thing) for number in self.shared()]
            found.extend([(thing, ("word", self.wish)) for thing in sorted(set(things))])
        return tuple(found)

    def hear(self, letter):
        """The letters (to, letter) that it answers; NoLetter(letter) of what is none for this hand."""
        if not is_letter(letter) or not self.has_place(letter[-1]):
            raise NoLetter(letter)
        wish = letter[-1]
        if wish_number(wish) > wish_number(self.wish):
            self.wish = wish
        if letter[0] == "word" or not self.shares(letter[1]):
            return ()
        word, number, count = letter[:3]
        self.tally[number] = max(self.tally[number], count)
        if word == "leave" or wish_number(wish) < wish_number(self.wish):
            return ()
        return self.answers(number, count)

    def has_place(self, wish):
        """Whether the wish, unless it is None, has a place for this thing."""
        return wish is None or self.thing < len(wish[1])

    def answers(self, number, count):
        """What it answers an ask that has this count; its own is none less."""
        if self.tally[number] == count and self.has_leave(number):
            if not is_out_at(own_side(self.held[number], self.thing), self.place):
                self.tally[number] += 1
        if self.tally[number] == count:
            return ()
        leave = ("leave", number, self.tally[number], self.wish)
        return ((other_thing(self.held[number], self.thing), leave),)

    def put(self, number, rule, count):
        """A rule more; NoRule(number) where it is there already."""
        if not is_whole(number) or number in self.held:
            raise NoRule(number)
        self.held[number] = rule
        self.tally[number] = count

    def drop(self, number):
        """A rule fewer; NoRule(number), of anything, where it isn't there."""
        if not is_whole(number) or number not in self.held:
            raise NoRule(number)
        del self.held[number]
        del self.tally[number]
