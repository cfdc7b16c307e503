"""Point 17: the longest strand of a basket; of point 3 (f) that it is exact."""

import random
import unittest

from evenstrand.fewest import fewest
from evenstrand.longest import heights_of, longest
from evenstrand.papers import shows_longest, shows_way
from tests.samples import BIG, EVEN, STEEP, asked_twice
from tests.test_baskets import DOT, LONG, SHORT, model_steps, some_basket, some_frame
from tests.test_fewest import check_strand, check_way, laid_by, manys_of
from tests.test_levels import FRAME, ONE

HEIGHTS = (
    (((), (2,)), 4), ((((0, 1),), (0,)), 1), ((((0, 1),), (1,)), 3), ((((0, 2),), (0,)), 0), ((((0, 2),), (1,)), 2))


def model_reached(basket, frame, most):
    """By each state come to those that come of it; None where there are more than most."""
    found = {}
    waiting = [((), manys_of(basket))]
    while waiting and len(found) <= most:
        state = waiting.pop()
        if state not in found:
            found[state] = [coming for coming, _ in model_steps(basket, frame, state)]
            waiting += found[state]
    return found if len(found) <= most else None


def model_heights(found):
    """The heights, each the greatest of all ways gone through from a state; None where a way comes back."""
    def height(state, ahead):
        if state in ahead:
            raise RecursionError
        return max([height(coming, ahead + [state]) + 1 for coming in found[state]], default=0)

    try:
        return {state: height(state, []) for state in found}
    except RecursionError:
        return None


class Longest(unittest.TestCase):
    def check_longest(self, basket, frame, most, length):
        told = asked_twice(self, longest, basket, frame, most)
        self.assertEqual(told[:2], ("longest", length))
        self.assertEqual(len(told), 3)
        check_way(self, basket, frame, told[2], length)
        if length <= 20:
            check_strand(self, basket, frame, told[2])
        heights = heights_of(basket, frame, most)
        self.assertIs(shows_longest(basket, frame, length, heights), True)
        self.assertIs(length > 0 and shows_longest(basket, frame, length - 1, heights), False)

    def check_endless(self, basket, frame, most):
        told = asked_twice(self, longest, basket, frame, most)
        self.assertEqual((told[0], len(told)), ("endless", 3))
        way, start = told[1:]
        self.assertIsInstance(start, int)
        self.assertTrue(0 <= start < len(way) - 1)
        self.assertEqual(way[start], way[-1])
        check_way(self, basket, frame, way, len(way) - 1)
        self.assertIsNone(asked_twice(self, heights_of, basket, frame, most))
        # Gone round some times more, it is a way still.
        self.assertTrue(shows_way(basket, frame, way + way[start + 1:] * 3))

    def check_open(self, basket, frame, most):
        self.assertEqual(asked_twice(self, longest, basket, frame, most), ("open", None))
        self.assertIsNone(asked_twice(self, heights_of, basket, frame, most))

    def test_by_hand(self):
        self.check_longest(ONE, FRAME, 99, 4)
        self.check_longest(((DOT, 9),), (1, 1, 1), 99, 9)
        self.check_longest(((DOT, 9),), (3, 3, 3), 99, 3)
        self.check_longest(((DOT, 8),), (3, 3, 3), 99, 2)
        self.check_longest(((STEEP, 1),), (1, 8, 1), 99, 8)
        self.check_longest(((STEEP, 2),), (3, 8, 1), 99, 12)
        self.check_longest(((EVEN, 9), (SHORT, 9)), (2, 4, 1), 9999, 72)

    def test_a_longest_of_none(self):
        self.check_longest(((LONG, 0),), FRAME, 1, 0)
        self.check_longest(((LONG, 9),), (4, 5, 1), 1, 0)
        self.check_longest(((SHORT, None),), (5, 5, 3), 1, 0)
        self.assertEqual(longest(((LONG, 0),), FRAME, 1), ("longest", 0, (((), (0,)),)))
        self.assertEqual(heights_of(((LONG, 0),), FRAME, 1), ((((), (0,)), 0),))

    def test_wisps_let_go_early(self):
        # 3 3 1: at its third place each is too thin alone, and too thick with the next one.
        self.check_longest(((LONG, 3),), (3, 3, 2), 999, 6)
        self.check_longest(((LONG, 3),), (3, 4, 2), 999, 6)

    def test_endless(self):
        self.check_endless(((DOT, None),), (1, 1, 1), 99)
        self.check_endless(((SHORT, None),), (2, 2, 1), 99)
        self.check_endless(((SHORT, None),), (6, 6, 3), 99)
        self.check_endless(((LONG, 2), (SHORT, None)), (3, 5, 2), 300)
        self.assertEqual(longest(((DOT, None),), (1, 1, 1), 1), ("endless", (((), (None,)),) * 2, 0))

    def test_endless_only_behind_some_places(self):
        # 4 and 2: each next one makes 6 with the one ahead, but only the one of 2 can make it at first.
        basket = (((0, ((4, 1), (2, 1))), None), ((1, ((2, 1),)), 1))
        self.check_endless(basket, (6, 6, 2), 99)
        self.assertGreaterEqual(longest(basket, (6, 6, 2), 99)[2], 1)
        self.check_longest(((basket[0][0], None), (basket[1][0], 0)), (6, 6, 2), 99, 0)

    def test_some_states_are_dead_ends_of_an_endless_basket(self):
        basket = ((SHORT, None), (LONG, 1))
        self.check_endless(basket, (2, 3, 1), 99)

    def test_not_endless_though_a_kind_is_none(self):
        # SHORT alone is too thin and three of them are too thick for the hand: each place needs a LONG.
        basket = ((LONG, 2), (SHORT, None))
        self.check_longest(basket, (5, 5, 2), 300, 4)
        # As many as wanted, but too thick: they can't be laid.
        self.check_longest(((STEEP, None), (DOT, 3)), (1, 1, 1), 99, 3)
        self.check_longest(((STEEP, None), (DOT, 3)), (1, 7, 1), 99, 3)

    def test_most_as_many_as_there_are_states_and_one_fewer(self):
        self.check_longest(ONE, FRAME, 5, 4)
        for most in (1, 3, 4):
            self.check_open(ONE, FRAME, most)
        self.check_longest(((DOT, 9),), (1, 1, 1), 10, 9)
        self.check_open(((DOT, 9),), (1, 1, 1), 9)

    def test_open_ahead_of_endless(self):
        self.check_endless(((SHORT, None),), (2, 2, 1), 2)
        self.check_open(((SHORT, None),), (2, 2, 1), 1)

    def test_a_state_come_to_at_several_places_counts_once(self):
        # ((), (None,)) comes at each second place; levels would count it each time.
        self.check_endless(((DOT, None),), (1, 1, 1), 1)

    def test_no_way_of_one_more(self):
        for basket, frame, length in ((ONE, FRAME, 4), (((STEEP, 2),), (3, 8, 1), 12)):
            self.assertEqual(fewest(basket, frame, length + 1, BIG), ("never", length))
            self.assertEqual(fewest(basket, frame, length, BIG)[0], "fewest")

    def test_choice_by_choice(self):
        chance = random.Random(80)
        words = []
        for _ in range(300):
            basket, frame = some_basket(chance, 4, 2), some_frame(chance)
            frame = frame[:2] + (min(frame[2], 2),)
            found = model_reached(basket, frame, 40)
            if found is None:
                self.check_open(basket, frame, 40)
                words.append("open")
                continue
            heights = model_heights(found)
            for most in (len(found), len(found) + 1, BIG):
                if heights is None:
                    self.check_endless(basket, frame, most)
                else:
                    self.check_longest(basket, frame, most, heights[((), manys_of(basket))])
                    self.assertEqual(heights_of(basket, frame, most), tuple(sorted(heights.items())))
            if len(found) > 1:
                self.check_open(basket, frame, len(found) - 1)
            words.append("endless" if heights is None else "longest")
        for word in ("open", "endless", "longest"):
            self.assertGreater(words.count(word), 20)

    def test_hands_of_three(self):
        chance = random.Random(81)
        told = []
        for _ in range(60):
            basket, frame = some_basket(chance, 5, 3), some_frame(chance)[:2] + (3,)
            word = longest(basket, frame, 120)[0]
            told.append(word)
            if word == "endless":
                self.check_endless(basket, frame, 120)
            elif word == "longest":
                length = longest(basket, frame, 120)[1]
                self.check_longest(basket, frame, 120, length)
            else:
                self.assertIsNone(model_reached(basket, frame, 120))
        self.assertTrue({"endless", "longest", "open"} <= set(told))

    def test_forty_figures(self):
        basket = (((0, ((BIG, 1), (BIG - 1, 1))), 2),)
        self.check_longest(basket, (BIG, BIG, 1), BIG, 2)
        self.check_longest(basket, (BIG - 1, BIG, 1), BIG, 4)
        self.check_endless((((1, ((BIG, 8),)), None),), (2 * BIG, 2 * BIG, 2), BIG)
        self.check_open((((1, ((BIG, 8),)), None),), (2 * BIG, 2 * BIG, 2), 2)

    def test_somewhat_beyond_the_bounds_nothing_is_raised(self):
        self.assertEqual(longest(((DOT, 20),), (1, 1, 1), 99)[:2], ("longest", 20))
        self.assertEqual(longest(ONE, FRAME, 0), ("open", None))
        self.assertIsNone(heights_of(ONE, FRAME, 0))


class HeightsOf(unittest.TestCase):
    def test_by_hand(self):
        self.assertEqual(asked_twice(self, heights_of, ONE, FRAME, 99), HEIGHTS)
        self.assertEqual(heights_of(ONE, FRAME, 5), HEIGHTS)

    def test_states_from_which_nothing_can_be_drawn(self):
        self.assertEqual(heights_of(((DOT, 2),), (1, 2, 2), 99), (
            (((), (0,)), 0), (((), (1,)), 1), (((), (2,)), 2)))
        told = dict(heights_of(((LONG, 1), (DOT, 1)), (3, 4, 2), 99))
        self.assertEqual(told[(((0, 2),), (0, 0))], 0)
        self.assertEqual(told[(((0, 2),), (0, 1))], 0)
        self.assertEqual(told[((), (1, 1))], 2)

    def test_open_and_endless(self):
        self.assertIsNone(heights_of(ONE, FRAME, 4))
        self.assertIsNone(heights_of(((DOT, None),), (1, 1, 1), 99))

    def test_the_heights_fall_by_one_on_the_longest_way(self):
        for basket, frame in ((ONE, FRAME), (((LONG, 3),), (3, 4, 2)), (((STEEP, 2),), (3, 8, 1))):
            heights = dict(heights_of(basket, frame, 999))
            way = longest(basket, frame, 999)[2]
            self.assertEqual([heights[state] for state in way], list(range(len(way) - 1, -1, -1)))
            self.assertGreater(laid_by(basket, frame, way), 0)


if __name__ == "__main__":
    unittest.main()
