"""Promises [21] and [22], and [3] (f) and (g) by hands alone: what a hand goes, lacks, writes and hears."""

import copy
import random
import unittest

from notbothout.errors import NoLetter, NoRule
from notbothout.going import door
from notbothout.hands import Hand
from notbothout.letters import is_letter
from notbothout.middles import far
from notbothout.plans import Plan
from tests.bound import ringed_pairs
from tests.plain import Odd, anything, good_ones, is_plain, nested, nested_list, plainly_good
from tests.plain_hand import PlainHand, first_count, kept_plans, rules_of
from tests.walks import THIRTY

FIRST = ((0, "to", 1), (1, "from", 3))
SECOND = ((1, "to", 4), (0, "from", 2))
OWN = ((0, "to", 3), (0, "from", 6))
THIRD = ((0, "to", 5), (2, "to", 2))


def state(hand, numbers):
    """All that a hand tells without a deed."""
    shared = [(k, hand.count_of(k), hand.has_leave(k)) for k in numbers]
    return hand.thing, hand.place, hand.wish, shared, hand.lacks(), hand.beat()


def plain_state(hand, numbers):
    shared = [(k, hand.row(k)[2], hand.has_leave(k)) for k in numbers]
    return hand.thing, hand.place, hand.wish, shared, hand.lacks(), hand.beat()


def wished(hand, place, number=1, things=3):
    """The hand with a wish that has this place for its thing."""
    hand.hear(("word", (number, (place,) * things)))
    return hand


class Checked(unittest.TestCase):
    def refused(self, kind, call, *told, **named):
        with self.assertRaises(kind) as caught:
            call(*told, **named)
        self.assertIs(type(caught.exception), kind)
        return caught.exception.thing


class Counts(Checked):
    def test_values(self):
        hand = Hand(0, 4, ((2, FIRST, 0),))
        self.assertEqual((hand.thing, hand.place, hand.wish), (0, 4, None))
        self.assertEqual((Hand(11, THIRTY, ()).thing, Hand(11, THIRTY, ()).place), (11, THIRTY))

    def test_who_has_the_leave_by_counts_of_either_kind(self):
        for count in (0, 1, 2, 3, 60, 61, THIRTY):
            even = count % 2 == 0
            for thing, rule, has in [(0, FIRST, even), (1, FIRST, not even), (0, SECOND, not even), (1, SECOND, even)]:
                hand = Hand(thing, 2, ((7, rule, count),))
                self.assertEqual(hand.count_of(7), count)
                self.assertIs(hand.has_leave(7), has)

    def test_no_rule_of_anything_else(self):
        hand = Hand(0, 0, ((0, FIRST, 0), (1, FIRST, 1), (3, OWN, 0)))
        for call in (hand.count_of, hand.has_leave):
            for thing in [3, 2, 4, -1, True, False, "0", (0,), [0], None, 10 ** 59, Odd(), *anything()]:
                if type(thing) is int and thing in (0, 1):
                    continue
                self.assertIs(self.refused(NoRule, call, thing), thing)
            self.assertIsNotNone(call(0))
            self.assertIsNotNone(call(1))
        self.assertEqual(self.refused(NoRule, Hand(0, 0, ()).count_of, 0), 0)


class Stride(Checked):
    def test_without_a_wish_and_at_the_wished_place(self):
        hand = Hand(0, 2, ((0, FIRST, 1),))
        self.assertEqual((hand.stride(), hand.place, hand.lacks(), hand.beat()), (0, 2, (), ()))
        wished(hand, 2)
        self.assertEqual((hand.stride(), hand.place, hand.lacks()), (0, 2, ()))

    def test_ahead_of_a_place_that_is_not_let(self):
        for rules, here, goal, end, lacked in [
            ((), 0, 9, 9, ()), ((), 9, 0, 0, ()),
            (((0, FIRST, 0),), 0, 9, 9, ()), (((0, FIRST, 1),), 0, 9, 1, (0,)), (((0, FIRST, 1),), 0, 1, 1, ()),
            (((5, SECOND, 0),), 9, 0, 2, (5,)), (((5, SECOND, 1),), 9, 0, 0, ()), (((5, SECOND, 0),), 2, 1, 2, (5,)),
            (((1, OWN, 0),), 0, 9, 3, ()), (((1, OWN, 0),), 9, 0, 6, ()), (((1, OWN, 0),), 9, 6, 6, ()),
            (((1, OWN, 0), (2, THIRD, 1)), 6, 9, 6, (2,)), (((0, FIRST, 1), (1, OWN, 0)), 0, 9, 1, (0,)),
            (((0, FIRST, 1), (2, FIRST, 1), (3, FIRST, 0)), 0, 9, 1, (0, 2)),
            # A rule of one side twice, of the other one twice, of what is kept everywhere.
            (((0, ((0, "to", 4), (0, "to", 4)), 0),), 0, 9, 4, ()), (((0, ((0, "to", 4), (0, "from", 5)), 0),), 0, 9, 9, ()),
            (((0, ((0, "from", 4), (0, "from", 7)), 0),), 9, 0, 4, ()),
        ]:
            hand = wished(Hand(0, here, rules), goal)
            self.assertEqual((hand.stride(), hand.place, hand.lacks()), (abs(end - here), end, lacked), (rules, here, goal))
            self.assertEqual((hand.stride(), hand.place), (0, end))

    def test_its_own_place_is_left_out(self):
        # It stands where it isn't let; the places on the way are what counts.
        self.assertEqual(wished(Hand(0, 0, ((0, SECOND, 0),)), 9).stride(), 0)
        self.assertEqual(wished(Hand(0, 1, ((0, SECOND, 0),)), 9).stride(), 8)
        self.assertEqual(wished(Hand(0, 4, ((0, OWN, 0),)), 0).stride(), 4)
        self.assertEqual(wished(Hand(0, 5, ((0, OWN, 0),)), 0).stride(), 0)
        self.assertEqual(wished(Hand(0, 5, ((0, OWN, 0),)), 9).stride(), 4)

    def test_strides_of_thirty_figures(self):
        far_off = ((0, "to", THIRTY - 5), (1, "from", THIRTY))
        hand = wished(Hand(0, 3, ((0, far_off, 1), (1, far_off, 0))), THIRTY)
        self.assertEqual((hand.stride(), hand.place, hand.lacks()), (THIRTY - 8, THIRTY - 5, (0,)))
        hand.hear(("leave", 0, 2, None))
        self.assertEqual((hand.stride(), hand.place, hand.lacks()), (5, THIRTY, ()))
        wished(hand, 0, 2)
        self.assertEqual((hand.stride(), hand.place), (THIRTY, 0))


class Beat(Checked):
    def test_asks_rising_then_words_rising(self):
        rules = ((0, FIRST, 1), (3, ((0, "to", 1), (4, "from", 1)), 5), (8, THIRD, 0), (9, OWN, 0), (12, FIRST, 3))
        hand = Hand(0, 1, rules)
        wish = (6, (9, 0, 0, 0, 0))
        hand.hear(("word", wish))
        words = ((1, ("word", wish)), (2, ("word", wish)), (4, ("word", wish)))
        asks = ((1, ("ask", 0, 1, wish)), (4, ("ask", 3, 5, wish)), (1, ("ask", 12, 3, wish)))
        self.assertEqual(hand.beat(), asks + words)
        self.assertEqual(hand.beat(), asks + words)
        hand.hear(("word", (7, (1, 0, 0, 0, 0))))
        self.assertEqual([to for to, letter in hand.beat()], [1, 2, 4])
        self.assertEqual(Hand(0, 1, rules).beat(), ())

    def test_words_to_nobody_by_its_own_rules(self):
        self.assertEqual(wished(Hand(0, 1, ((0, OWN, 0),)), 9).beat(), ())


class Hear(Checked):
    def test_a_greater_wish_is_taken_first_of_any_letter(self):
        for letter in [("word", (3, (5, 6))), ("ask", 0, 0, (3, (5, 6))), ("leave", 0, 0, (3, (5, 6))),
                       ("ask", 99, 0, (3, (5, 6))), ("leave", 99, 4, (3, (5, 6)))]:
            for ahead, taken in [(None, True), ((2, (0, 0)), True), ((3, (0, 0)), False), ((4, (0, 0)), False)]:
                hand = Hand(1, 0, ((0, FIRST, 0),))
                if ahead is not None:
                    hand.hear(("word", ahead))
                hand.hear(letter)
                self.assertEqual(hand.wish, (3, (5, 6)) if taken else ahead)

    def test_none_is_the_least_wish(self):
        hand = Hand(0, 0, ((0, FIRST, 0),))
        self.assertEqual(hand.hear(("ask", 0, 0, None)), ((1, ("leave", 0, 1, None)),))
        wished(hand, 5)
        self.assertEqual(hand.hear(("ask", 0, 0, None)), ())
        self.assertEqual(hand.wish, (1, (5, 5, 5)))

    def test_an_ask_is_answered_by_a_leave_given_now(self):
        hand = Hand(0, 1, ((0, FIRST, 4),))
        wish = (2, (0, 0))
        self.assertEqual(hand.hear(("ask", 0, 4, wish)), ((1, ("leave", 0, 5, wish)),))
        self.assertEqual((hand.count_of(0), hand.has_leave(0), hand.wish), (5, False, wish))
        # By a leave already given, again.
        self.assertEqual(hand.hear(("ask", 0, 4, wish)), ((1, ("leave", 0, 5, wish)),))
        self.assertEqual(hand.hear(("ask", 0, 0, wish)), ((1, ("leave", 0, 5, wish)),))
        # By nothing: it lacks the leave.
        self.assertEqual(hand.hear(("ask", 0, 5, wish)), ())
        self.assertEqual(hand.count_of(0), 5)

    def test_an_ask_is_answered_by_nothing_where_its_side_is_out(self):
        hand = Hand(0, 2, ((0, FIRST, 4),))
        self.assertEqual(hand.hear(("ask", 0, 4, None)), ())
        self.assertEqual(hand.count_of(0), 4)
        self.assertEqual(hand.hear(("ask", 0, 3, None)), ((1, ("leave", 0, 4, None)),))

    def test_an_ask_with_a_greater_count_is_taken_and_then_answered(self):
        hand = Hand(0, 1, ((0, FIRST, 1),))
        self.assertEqual(hand.hear(("ask", 0, 6, None)), ((1, ("leave", 0, 7, None)),))
        hand = Hand(0, 1, ((0, FIRST, 1),))
        self.assertEqual(hand.hear(("ask", 0, 5, None)), ())
        self.assertEqual(hand.count_of(0), 5)
        hand = Hand(0, 2, ((0, FIRST, 1),))
        self.assertEqual((hand.hear(("ask", 0, 6, None)), hand.count_of(0), hand.has_leave(0)), ((), 6, True))

    def test_an_ask_with_a_lesser_wish_is_answered_by_nothing_but_its_count_is_taken(self):
        hand = wished(Hand(0, 1, ((0, FIRST, 0),)), 1, number=4)
        self.assertEqual(hand.hear(("ask", 0, 0, (3, (0, 0)))), ())
        self.assertEqual(hand.count_of(0), 0)
        self.assertEqual(hand.hear(("ask", 0, 8, (3, (0, 0)))), ())
        self.assertEqual(hand.count_of(0), 8)
        self.assertEqual(hand.hear(("ask", 0, 2, None)), ())
        wish = (4, (9, 9))
        self.assertEqual(hand.hear(("ask", 0, 2, wish)), ((1, ("leave", 0, 8, (4, (1, 1, 1)))),))

    def test_leaves_late_twice_and_of_a_rule_that_is_not_there(self):
        hand = Hand(1, 4, ((0, FIRST, 0), (1, ((1, "to", 4), (1, "from", 6)), 0)))
        self.assertEqual(hand.hear(("leave", 0, 1, None)), ())
        self.assertEqual((hand.count_of(0), hand.has_leave(0)), (1, True))
        self.assertEqual(hand.hear(("leave", 0, 1, None)), ())
        self.assertEqual(hand.hear(("leave", 0, 0, None)), ())
        self.assertEqual(hand.count_of(0), 1)
        for number in (1, 2, 10 ** 59):
            self.assertEqual(hand.hear(("leave", number, 7, None)), ())
            self.assertEqual(hand.hear(("ask", number, 0, None)), ())
        self.assertEqual(hand.count_of(0), 1)
        hand.drop(0)
        self.assertEqual(hand.hear(("leave", 0, 9, (1, (0, 8)))), ())
        self.assertEqual(hand.hear(("ask", 0, 0, (1, (0, 8)))), ())
        self.assertEqual(hand.wish, (1, (0, 8)))
        self.refused(NoRule, hand.count_of, 0)

    def test_no_letter_and_nothing_is_changed(self):
        hand = wished(Hand(1, 2, ((0, FIRST, 1), (4, SECOND, 0))), 5)
        before = state(hand, (0, 4))
        short = (9, (7,))
        bad = [("word", short), ("ask", 0, 5, short), ("leave", 0, 5, short), ("ask", 99, 5, short), ("word", None),
               ("ask", 0, 5), ["word", (9, (7, 7))], ("word", [9, (7, 7)]), ("ask", 0, True, None), ("ask", -1, 0, None),
               ("word", (0, (7, 7))), ("word", (9, (7,) * 13)), ("leave", 0, "5", None), nested((), 29),
               nested_list(0, 30), Odd(), *anything()]
        for thing in bad:
            self.assertIs(self.refused(NoLetter, hand.hear, thing), thing)
            self.assertEqual(state(hand, (0, 4)), before)
        self.assertEqual(Hand(0, 2, ()).hear(("word", short)), ())
        self.refused(NoLetter, Hand(11, 2, ()).hear, ("word", (1, (0,) * 11)))
        self.assertEqual(Hand(11, 2, ()).hear(("word", (1, (0,) * 12))), ())


class Put(Checked):
    def test_put_and_drop(self):
        hand = wished(Hand(0, 1, ((5, FIRST, 1),)), 9)
        self.assertIsNone(hand.put(2, FIRST, 3))
        self.assertIsNone(hand.put(9, OWN, 0))
        self.assertEqual(hand.lacks(), (2, 5))
        self.assertEqual([letter[1] for to, letter in hand.beat()[:2]], [2, 5])
        self.assertEqual(hand.count_of(2), 3)
        self.assertIsNone(hand.drop(2))
        self.assertEqual(hand.lacks(), (5,))
        self.assertIsNone(hand.drop(5))
        self.assertEqual((hand.lacks(), hand.beat(), hand.stride(), hand.place), ((), (), 2, 3))
        self.assertIsNone(hand.drop(9))
        self.assertEqual((hand.stride(), hand.place), (6, 9))

    def test_no_rule(self):
        hand = Hand(0, 1, ((5, FIRST, 1), (6, OWN, 0)))
        before = state(hand, (5,))
        for number in (5, 6):
            self.assertEqual(self.refused(NoRule, hand.put, number, SECOND, 1), number)
        for thing in [4, 7, -1, True, "5", (5,), [5], 10 ** 59, Odd(), *anything()]:
            self.assertIs(self.refused(NoRule, hand.drop, thing), thing)
        for thing in [True, "5", (5,), [5], None, Odd()]:
            self.assertIs(self.refused(NoRule, hand.put, thing, SECOND, 1), thing)
        self.assertEqual(state(hand, (5,)), before)
        hand.drop(6)
        self.assertEqual(self.refused(NoRule, hand.drop, 6), 6)
        hand.put(6, SECOND, 1)
        self.assertEqual(hand.count_of(6), 1)


class AgainstPlain(unittest.TestCase):
    """A hand held against one that goes place by place."""

    def drawn_letter(self, plan, hand, dice, numbers):
        number = dice.choice([*numbers, *numbers, 40, dice.randrange(8)])
        own = hand.row(number)
        count = max(0, (own[2] if own else 0) + dice.choice((-2, -1, 0, 0, 0, 1, 2)))
        wish = (dice.randrange(1, 9), tuple(dice.randrange(top + 1) for top in plan.tops))
        wish = dice.choice((None, hand.wish, wish, wish))
        word = dice.choice(("ask", "ask", "leave", "word"))
        if word == "word" and wish is not None:
            return "word", wish
        return "leave" if word == "leave" else "ask", number, count, wish

    def do(self, plan, hand, plain, dice, next_number):
        """One deed of both; what they told."""
        numbers = [row[0] for row in plain.rows]
        deed = dice.choice(("hear", "hear", "hear", "stride", "stride", "put", "drop"))
        if deed == "hear":
            letter = self.drawn_letter(plan, plain, dice, numbers or [0])
            return hand.hear(letter), plain.hear(letter)
        if deed == "stride":
            return hand.stride(), plain.stride()
        if deed == "drop" and numbers:
            number = dice.choice(numbers)
            return hand.drop(number), plain.drop(number)
        rules = [rule for rule in plan.rules if plain.thing in (rule[0][0], rule[1][0])]
        if deed == "put" and rules and dice.randrange(2):
            rule = dice.choice(rules)
            count = dice.randrange(4) if rule[0][0] != rule[1][0] else 0
            free = [k for k in range(next_number) if k not in numbers]
            number = dice.choice(free)
            return hand.put(number, rule, count), plain.put(number, rule, count)
        return (), ()

    def test_drawn_deeds(self):
        strode = answered = lacked = 0
        for plan, standing, dice in kept_plans(450, 371):
            thing = dice.randrange(len(plan))
            rules = rules_of(plan, standing, thing)
            rules = tuple((number * 2, rule, count + dice.choice((0, 0, 1, 2)) * (rule[0][0] != rule[1][0]))
                          for number, rule, count in rules)
            hand, plain = Hand(thing, standing[thing], rules), PlainHand(thing, standing[thing], rules)
            for k in range(40):
                told, expected = self.do(plan, hand, plain, dice, 30)
                self.assertEqual(told, expected)
                numbers = [row[0] for row in plain.shared()]
                self.assertEqual(state(hand, numbers), plain_state(plain, numbers))
                strode += isinstance(told, int) and told > 0
                answered += told not in ((), None) and not isinstance(told, int)
                lacked += len(hand.lacks()) > 0
        self.assertGreater(min(strode, answered, lacked), 300, (strode, answered, lacked))


class Post:
    """Hands for a plan and a standing, and letters under way between them."""

    def __init__(self, plan, standing, dice):
        self.plan, self.dice = plan, dice
        self.hands = [Hand(thing, place, rules_of(plan, standing, thing)) for thing, place in enumerate(standing)]
        self.bag = []

    def standing(self):
        return tuple(hand.place for hand in self.hands)

    def shared(self):
        return [(k, rule) for k, rule in enumerate(self.plan.rules) if rule[0][0] != rule[1][0]]

    def leaves(self):
        """For each shared rule the things that have its leave."""
        return [[side[0] for side in rule if self.hands[side[0]].has_leave(k)] for k, rule in self.shared()]

    def counts(self):
        return [max(self.hands[side[0]].count_of(k) for side in rule) for k, rule in self.shared()]

    def come(self, at):
        to, letter = self.bag.pop(at)
        self.bag.extend(self.hands[to].hear(letter))

    def tell(self, number, goal, things):
        self.bag.extend((thing, ("word", (number, goal))) for thing in things)

    def stir(self):
        """Something happens: a hand beats or strides; a letter comes, out of order, is lost or doubled."""
        deed = self.dice.randrange(8)
        hand = self.dice.choice(self.hands)
        if deed < 2:
            self.bag.extend(hand.beat())
        elif deed < 4:
            hand.stride()
        elif self.bag:
            at = self.dice.randrange(len(self.bag))
            if deed == 4:
                self.bag.append(self.bag[at])
            elif deed == 5 and self.dice.randrange(2):
                self.bag.pop(at)
            else:
                self.come(at)

    def full_beat(self):
        for hand in self.hands:
            self.bag.extend(hand.beat())
        while self.bag:
            self.come(0)
        return sum(hand.stride() for hand in self.hands)


class Together(unittest.TestCase):
    """[3] (f) and (g), by hands alone."""

    def check_kept(self, post):
        self.assertTrue(plainly_good(post.plan, post.standing()))
        for things in post.leaves():
            self.assertLessEqual(len(things), 1)

    def test_kept_whatever_letters_do(self):
        moved = given = 0
        for plan, standing, dice in kept_plans(200, 381):
            post, good = Post(plan, standing, dice), good_ones(plan)
            for k in range(120):
                if k % 20 == 0:
                    some = dice.sample(range(len(plan)), dice.randrange(1, len(plan) + 1))
                    post.tell(k // 20 + 1, dice.choice(good), some)
                before = post.standing()
                post.stir()
                self.check_kept(post)
                moved += post.standing() != before
                self.assertTrue(all(is_letter(letter) for to, letter in post.bag))
            given += sum(post.counts())
        self.assertGreater(min(moved, given), 300, (moved, given))

    def test_rest_behind_the_last_wish_at_the_door(self):
        short = 0
        dice = random.Random(382)
        ringed = [(plan, one, dice) for plan, one, other in ringed_pairs(120, 382)]
        for plan, standing, dice in [*kept_plans(150, 382), *ringed]:
            post, good = Post(plan, standing, dice), good_ones(plan)
            for k in range(60):
                if k % 15 == 0:
                    post.tell(k // 15 + 1, dice.choice(good), [dice.randrange(len(plan))])
                post.stir()
            goal = dice.choice(good)
            for hand in post.hands:
                hand.hear(("word", (9, goal)))
            here, counts = post.standing(), post.counts()
            gone = sum(post.full_beat() for k in range(60))
            self.check_kept(post)
            self.assertEqual(post.standing(), door(plan, standing, goal))
            self.assertEqual(post.standing(), door(plan, here, goal))
            self.assertEqual(gone, far(here, post.standing()))
            self.assertTrue(all(after - ahead in (0, 1) for ahead, after in zip(counts, post.counts())))
            short += post.standing() != goal
        self.assertGreater(short, 10)

    def test_two_hands_that_hand_the_leave_to_and_fro(self):
        plan = Plan((1, 1), (((0, "to", 0), (1, "to", 0)),))
        post = Post(plan, (0, 0), random.Random(383))
        for number in range(1, 8):
            goal = ((1, 0), (0, 1))[number % 2]
            post.tell(number, goal, (0, 1))
            for k in range(4):
                post.full_beat()
                self.check_kept(post)
            self.assertEqual(post.standing(), goal)
        self.assertEqual(post.counts(), [7])

    def test_lines_of_thirty_figures(self):
        plan = Plan((THIRTY, THIRTY), (((0, "to", 5), (1, "from", THIRTY - 3)),))
        post = Post(plan, (0, 0), random.Random(384))
        post.tell(1, (THIRTY, THIRTY), (0, 1))
        self.assertEqual(sum(post.full_beat() for k in range(5)), 2 * THIRTY)
        self.assertEqual(post.standing(), (THIRTY, THIRTY))


class Ways(Checked):
    """What [2] says of it."""

    def test_by_names(self):
        hand = Hand(rules=((0, FIRST, 0),), place=1, thing=0)
        self.assertEqual((hand.thing, hand.place), (0, 1))
        self.assertEqual(hand.count_of(number=0), 0)
        self.assertIs(hand.has_leave(number=0), True)
        self.assertEqual(hand.hear(letter=("word", (1, (4, 4)))), ())
        self.assertIsNone(hand.put(count=1, rule=SECOND, number=1))
        self.assertIsNone(hand.drop(number=1))
        self.assertEqual(self.refused(NoRule, hand.drop, number=1), 1)

    def test_kinds(self):
        hand = wished(Hand(0, 1, ((0, FIRST, 1), (1, FIRST, 0), (2, OWN, 0))), 9)
        told = (hand.lacks(), hand.beat(), hand.hear(("ask", 1, 0, hand.wish)), hand.stride(), hand.count_of(0),
                hand.has_leave(0), hand.thing, hand.place, hand.wish, hand.put(7, FIRST, 0), hand.drop(7))
        self.assertTrue(is_plain(told), told)
        self.assertIs(type(hand.has_leave(1)), bool)
        self.assertIs(type(hand.stride()), int)

    def test_two_hands_beside_each_other_and_what_is_handed_in(self):
        rules = ((0, FIRST, 1), (1, OWN, 0))
        one, two = Hand(0, 1, rules), Hand(0, 1, rules)
        one.hear(("leave", 0, 2, (1, (9, 9))))
        one.stride()
        one.drop(1)
        one.put(5, SECOND, 0)
        self.assertEqual(state(two, (0,)), state(Hand(0, 1, rules), (0,)))
        self.assertEqual(rules, ((0, FIRST, 1), (1, OWN, 0)))
        handed = [["word", [1, [0, 0]]], ("ask", 0, [0], None)]
        before = copy.deepcopy(handed)
        for thing in handed:
            self.refused(NoLetter, one.hear, thing)
        self.assertEqual(handed, before)

    def test_each_method_stands_in_the_class_itself(self):
        for name in "__init__ count_of has_leave stride lacks beat hear put drop".split():
            self.assertIn(name, vars(Hand))

    def test_first_counts(self):
        self.assertEqual(first_count(FIRST, (0, 0)), 1)
        self.assertEqual(first_count(FIRST, (0, 3)), 0)


if __name__ == "__main__":
    unittest.main()
