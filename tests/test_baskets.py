"""Point 15: baskets, frames, and the steps from a state."""

import itertools
import random
import unittest

from evenstrand.baskets import is_basket, is_frame, steps_of
from tests.samples import (
    BIG, EVEN, NARROW, STEEP, anything, asked_twice, check_nothing_fits, is_truth, nested, not_wisps, some_wisp,
    thin_out)

# 3 3 1, 2 2 and 1
LONG = (0, ((3, 2), (1, 1)))
SHORT = (1, ((2, 2),))
DOT = (0, ((1, 1),))
NINE = (0, ((2, 8), (1, 1)))
BASKET = ((LONG, 2), (SHORT, None))


def model_choices(basket, frame, state):
    """Each choice gone through, which go on and how many of each kind are laid: (what runs, laid, what comes of it)."""
    low, high, hand = frame
    ages, left = state
    thicks = [thin_out(wisp) for wisp, many in basket]
    found = []
    for stays in itertools.product((False, True), repeat=len(ages)):
        for laid in itertools.product(range(hand + 1), repeat=len(basket)):
            runs = [pair for pair, stay in zip(ages, stays) if stay]
            runs += [(kind, 0) for kind, many in enumerate(laid) for _ in range(many)]
            enough = all(many is None or taken <= many for taken, many in zip(laid, left))
            if enough and len(runs) <= hand and low <= sum(thicks[kind][age] for kind, age in runs) <= high:
                older = sorted((kind, age + 1) for kind, age in runs if age + 1 < len(thicks[kind]))
                rest = tuple(many if many is None else many - taken for taken, many in zip(laid, left))
                found.append((sorted(runs), sum(laid), (tuple(older), rest)))
    return found


def model_steps(basket, frame, state):
    """The steps from a state, by all choices."""
    found = {}
    for _, laid, coming in model_choices(basket, frame, state):
        found[coming] = min(laid, found.get(coming, laid))
    return tuple(sorted(found.items()))


def some_basket(chance, longest=8, kinds=4):
    basket = []
    while len(basket) < 1 or (len(basket) < kinds and chance.random() < 0.6):
        wisp = some_wisp(chance)
        if len(thin_out(wisp)) <= longest:
            basket.append((wisp, chance.choice([None, 0, 1, 2, 3, 9])))
    return tuple(basket)


def some_frame(chance):
    low = chance.randint(1, 7)
    return (low, low + chance.randint(0, 5), chance.randint(1, 3))


def some_state(chance, basket, hand):
    """A state of a basket, whether or not it is come to."""
    pairs = [(kind, age) for kind, (wisp, many) in enumerate(basket) for age in range(1, len(thin_out(wisp)))]
    ages = sorted(chance.choice(pairs) for _ in range(chance.randint(0, hand))) if pairs else []
    return (tuple(ages), tuple(None if many is None else chance.randint(0, many) for wisp, many in basket))


class IsBasket(unittest.TestCase):
    def test_baskets(self):
        for thing in (BASKET, ((LONG, 0),), ((LONG, None),), ((DOT, 9), (DOT, 9)), ((NARROW, 1), (EVEN, 2), (STEEP, 3)),
                      (((0, ((BIG, 8),)), 3),)):
            self.assertTrue(is_truth(self, is_basket, thing))

    def test_one_to_four_kinds(self):
        for many in (0, 1, 2, 3, 4, 5, 6):
            self.assertEqual(is_truth(self, is_basket, ((LONG, 1),) * many), 1 <= many <= 4)

    def test_wisps_of_eight_and_of_nine_places(self):
        for wisp, fits in ((STEEP, True), ((0, ((2, 7), (1, 1))), True), ((0, ((1, 8),)), True), (NINE, False),
                           ((0, ((1, 9),)), False), ((0, ((1, BIG),)), False)):
            self.assertEqual(is_truth(self, is_basket, ((wisp, 1),)), fits)
            self.assertEqual(is_truth(self, is_basket, ((LONG, 1), (wisp, None))), fits)

    def test_how_many(self):
        for many, fits in ((0, True), (1, True), (9, True), (10, False), (None, True), (-1, False), (BIG, False)):
            self.assertEqual(is_truth(self, is_basket, ((LONG, many),)), fits)
            self.assertEqual(is_truth(self, is_basket, ((LONG, 1), (SHORT, many))), fits)

    def test_other_things(self):
        check_nothing_fits(self, is_basket, anything() + [
            (), (LONG, 2), [(LONG, 2)], ([LONG, 2],), ((LONG, 2), [SHORT, 1]), ((LONG,),), ((LONG, 2, 0),), (LONG,),
            ((LONG, True),), ((LONG, False),), ((LONG, "2"),), ((LONG, (2,)),), ((LONG, [2]),), ((LONG, ()),),
            ((2, LONG),), ((LONG, 2), None), ((LONG, 2), ()), (((LONG, 2),),), {(LONG, 2)}, {LONG: 2}, ({LONG: 2},),
            ((LONG, nested(58)),), (nested(59),), ((LONG, 2), nested(59)), ((LONG, b"2"),),
        ])
        check_nothing_fits(self, is_basket, [((wisp, 2),) for wisp in not_wisps()])
        check_nothing_fits(self, is_basket, [((LONG, 2), (wisp, None)) for wisp in not_wisps()])


class IsFrame(unittest.TestCase):
    def test_frames(self):
        for thing in ((1, 1, 1), (1, 9, 3), (5, 5, 2), (1, BIG, 1), (BIG, BIG, 3)):
            self.assertTrue(is_truth(self, is_frame, thing))

    def test_low_and_high(self):
        for low, high, fits in ((0, 5, False), (-1, 5, False), (4, 5, True), (5, 5, True), (6, 5, False), (0, 0, False),
                                (BIG, BIG - 1, False)):
            self.assertEqual(is_truth(self, is_frame, (low, high, 2)), fits)

    def test_hand(self):
        for hand in (-1, 0, 1, 2, 3, 4, 5, BIG):
            self.assertEqual(is_truth(self, is_frame, (1, 5, hand)), 1 <= hand <= 3)

    def test_other_things(self):
        check_nothing_fits(self, is_frame, anything() + [
            (), (1,), (1, 5), (1, 5, 2, 0), (1, 5, 2, None), [1, 5, 2], "152", b"152", {1: 1, 5: 5, 2: 2}, {1, 5, 2},
            range(1, 4), (True, 5, 2), (1, True, 2), (1, 5, True), (False, 5, 2), (None, 5, 2), (1, None, 2),
            (1, 5, None), ("1", 5, 2), (1, "5", 2), (1, 5, "2"), ((1,), 5, 2), (1, (5,), 2), (1, 5, (2,)),
            ((1, 5, 2),), (1, [], 2),
            (nested(59), 5, 2), (1, nested(59), 2), (1, 5, nested(59)), (True, True, True),
        ])


class StepsOf(unittest.TestCase):
    def test_by_hand(self):
        # From the first state: LONG, or SHORT twice, or LONG and SHORT; LONG twice is too thick.
        self.assertEqual(asked_twice(self, steps_of, BASKET, (3, 5, 2), ((), (2, None))), (
            ((((0, 1),), (1, None)), 1), ((((0, 1), (1, 1)), (1, None)), 2), ((((1, 1), (1, 1)), (2, None)), 2)))

    def test_letting_go_what_runs_and_laying_another_of_its_kind(self):
        self.assertEqual(steps_of(((LONG, 2),), (3, 3, 1), (((0, 1),), (1,))), (
            ((((0, 1),), (0,)), 1), ((((0, 2),), (1,)), 0)))
        # At its last place it is too thin: it must be let go, and at last none is left.
        self.assertEqual(steps_of(((LONG, 2),), (3, 3, 1), (((0, 2),), (1,))), (((((0, 1),), (0,)), 1),))
        self.assertEqual(steps_of(((LONG, 2),), (3, 3, 1), (((0, 2),), (0,))), ())

    def test_those_of_their_full_length_are_gone(self):
        self.assertEqual(steps_of(((LONG, 0),), (1, 1, 1), (((0, 2),), (0,))), ((((), (0,)), 0),))
        self.assertEqual(steps_of(((DOT, 3),), (1, 3, 3), ((), (3,))), (
            (((), (0,)), 3), (((), (1,)), 2), (((), (2,)), 1)))

    def test_a_state_that_comes_of_several_choices_is_told_once_with_the_fewest_laid(self):
        self.assertEqual(steps_of(((DOT, None),), (1, 3, 3), ((), (None,))), ((((), (None,)), 1),))
        self.assertEqual(steps_of(((DOT, None),), (2, 3, 3), ((), (None,))), ((((), (None,)), 2),))
        # What runs on to its end, or is let go for a DOT: the same state, with 0 laid.
        told = steps_of(((SHORT, 0), (DOT, None)), (1, 2, 2), (((0, 1),), (0, None)))
        self.assertEqual(told, ((((), (0, None)), 0),))

    def test_wisps_of_the_same_kind_and_age(self):
        state = (((0, 1), (0, 1)), (0,))
        self.assertEqual(steps_of(((LONG, 2),), (3, 6, 3), state), (
            ((((0, 2),), (0,)), 0), ((((0, 2), (0, 2)), (0,)), 0)))
        self.assertEqual(steps_of(((LONG, 2),), (6, 6, 2), ((), (2,))), (((((0, 1), (0, 1)), (0,)), 2),))
        self.assertEqual(steps_of(((LONG, 9),), (9, 9, 3), (((0, 1), (0, 1)), (3,))), (
            ((((0, 1), (0, 1), (0, 1)), (0,)), 3), ((((0, 1), (0, 1), (0, 2)), (1,)), 2),
            ((((0, 1), (0, 2), (0, 2)), (2,)), 1)))

    def test_low_and_high_just_so(self):
        first = ((), (1,))
        told = [len(steps_of(((LONG, 1),), (low, high, 1), first)) for low, high in ((3, 3), (2, 4), (4, 9), (1, 2))]
        self.assertEqual(told, [1, 1, 0, 0])

    def test_the_hand(self):
        told = [len(steps_of(((SHORT, None),), (1, 9, hand), ((), (None,)))) for hand in (1, 2, 3)]
        self.assertEqual(told, [1, 2, 3])
        self.assertEqual([steps_of(((SHORT, None),), (6, 6, hand), ((), (None,))) for hand in (1, 2, 3)], [
            (), (), (((((0, 1), (0, 1), (0, 1)), (None,)), 3),)])

    def test_none_left(self):
        self.assertEqual(steps_of(((LONG, 0),), (1, 9, 3), ((), (0,))), ())
        self.assertEqual(steps_of(((LONG, 9), (SHORT, 9)), (1, 9, 1), ((), (0, 2))), (((((1, 1),), (0, 1)), 1),))

    def test_nine_are_left_nine_times(self):
        state = ((), (9,))
        for many in range(9, 0, -1):
            self.assertEqual(state, ((), (many,)))
            state = steps_of(((DOT, 9),), (1, 1, 1), state)[0][0]
        self.assertEqual(steps_of(((DOT, 9),), (1, 1, 1), state), ())

    def test_wisps_of_eight_places(self):
        state = ((), (1,))
        for age in range(1, 8):
            state = steps_of(((STEEP, 1),), (1, 8, 1), state)[0][0]
            self.assertEqual(state, (((0, age),), (0,)))
        self.assertEqual(steps_of(((STEEP, 1),), (1, 8, 1), state), ((((), (0,)), 0),))

    def test_choice_by_choice(self):
        chance = random.Random(60)
        for _ in range(250):
            basket, frame = some_basket(chance), some_frame(chance)
            first = ((), tuple(many for wisp, many in basket))
            for state in (first, some_state(chance, basket, frame[2]), some_state(chance, basket, frame[2])):
                told = asked_twice(self, steps_of, basket, frame, state)
                self.assertEqual(told, model_steps(basket, frame, state))

    def test_forty_figures(self):
        basket = (((0, ((BIG, 1), (BIG - 1, 1))), 2), (DOT, None))
        self.assertEqual(steps_of(basket, (BIG, BIG, 2), (((0, 1),), (1, None))), (
            (((), (1, None)), 1), ((((0, 1),), (0, None)), 1)))
        self.assertEqual(steps_of(basket, (BIG + 1, 2 * BIG, 3), ((), (1, None))), (
            ((((0, 1),), (0, None)), 2),))

    def test_somewhat_beyond_the_bounds_nothing_is_raised(self):
        state = (((0, 1),) * 5, (20,) * 5)
        basket = ((NINE, 20),) * 5
        self.assertEqual(steps_of(basket, (1, 99, 3), state), model_steps(basket, (1, 99, 3), state))
        self.assertEqual(steps_of(BASKET, (1, 9, 0), ((), (2, None))), ())


if __name__ == "__main__":
    unittest.main()
