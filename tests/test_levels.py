"""Of point 16 levels; of point 3 (f) that they are exact."""

import random
import unittest

from evenstrand.levels import levels_of
from tests.samples import BIG, STEEP, asked_twice
from tests.test_baskets import DOT, LONG, SHORT, model_steps, some_basket, some_frame

ONE = ((LONG, 2),)
FRAME = (3, 3, 1)
# 3 3 then another 3 3: four places, and no fifth one.
LEVELS = (
    ((((), (2,)), 0),),
    (((((0, 1),), (1,)), 1),),
    (((((0, 1),), (0,)), 2), ((((0, 2),), (1,)), 1)),
    (((((0, 1),), (0,)), 2), ((((0, 2),), (0,)), 2)),
    (((((0, 2),), (0,)), 2),),
)


def ways(basket, frame, length):
    """All ways of so many places, as (states, laid in all)."""
    found = [((((), tuple(many for wisp, many in basket)),), 0)]
    for _ in range(length):
        found = [(states + (coming,), laid + more) for states, laid in found
                 for coming, more in model_steps(basket, frame, states[-1])]
    return found


def model_levels(basket, frame, length):
    """The levels up to a length or to the last one ahead of an empty one, by all ways gone through."""
    levels = []
    for many in range(length + 1):
        best = {}
        for states, laid in ways(basket, frame, many):
            best[states[-1]] = min(laid, best.get(states[-1], laid))
        if not best:
            break
        levels.append(tuple(sorted(best.items())))
    return tuple(levels)


class LevelsOf(unittest.TestCase):
    def test_by_hand(self):
        self.assertEqual(asked_twice(self, levels_of, ONE, FRAME, 4, 99), ("levels", LEVELS))

    def test_a_length_of_zero(self):
        for basket in (ONE, ((LONG, 0),), ((SHORT, None), (DOT, 3))):
            manys = tuple(many for wisp, many in basket)
            for most in (1, 2, 99):
                self.assertEqual(asked_twice(self, levels_of, basket, FRAME, 0, most),
                                 ("levels", ((((((), manys), 0)),),)))

    def test_a_length_of_twenty(self):
        basket = ((SHORT, None),)
        state = (((0, 1),), (None,))
        told = asked_twice(self, levels_of, basket, (2, 2, 1), 20, BIG)
        self.assertEqual((told[0], len(told[1])), ("levels", 21))
        # Two places of each wisp: half of the places need one laid, rounded up.
        self.assertEqual([min(laid for _, laid in level) for level in told[1]], [(k + 1) // 2 for k in range(21)])
        self.assertEqual(dict(told[1][19])[state], 10)
        self.assertEqual(dict(told[1][20]), {state: 11, ((), (None,)): 10})

    def test_the_first_place_that_can_not_be_drawn(self):
        for length in (5, 6, 20):
            self.assertEqual(asked_twice(self, levels_of, ONE, FRAME, length, 99), ("never", 4))
        self.assertEqual(levels_of(((LONG, 0),), FRAME, 1, 1), ("never", 0))
        self.assertEqual(levels_of(ONE, (4, 5, 1), 20, 99), ("never", 0))
        self.assertEqual(levels_of(((STEEP, 1),), (1, 8, 1), 20, 99), ("never", 8))
        self.assertEqual(levels_of(((DOT, 9),), (1, 1, 1), 9, 99)[0], "levels")
        self.assertEqual(levels_of(((DOT, 9),), (1, 1, 1), 10, 99), ("never", 9))

    def test_most_as_many_as_there_are_states_and_one_fewer(self):
        counted = 0
        for length, level in enumerate(LEVELS):
            counted += len(level)
            self.assertEqual(levels_of(ONE, FRAME, length, counted), ("levels", LEVELS[:length + 1]))
            if counted > 1:
                self.assertEqual(asked_twice(self, levels_of, ONE, FRAME, length, counted - 1), ("open", None))

    def test_states_of_the_same_in_two_levels_count_twice(self):
        # 1 and 20 states, all of the latter alike.
        self.assertEqual(levels_of(((DOT, None),), (1, 1, 1), 20, 21)[0], "levels")
        self.assertEqual(levels_of(((DOT, None),), (1, 1, 1), 20, 20), ("open", None))

    def test_open_ahead_of_never(self):
        # Levels 0 to 4 have 7 states: with fewer it is open, whether or not a later one is empty.
        self.assertEqual([levels_of(ONE, FRAME, 20, most) for most in (1, 6)], [("open", None)] * 2)
        self.assertEqual([levels_of(ONE, FRAME, 5, most) for most in (1, 6)], [("open", None)] * 2)

    def test_never_ahead_of_open(self):
        # An empty level ends the count: what would come behind it isn't counted.
        self.assertEqual([levels_of(ONE, FRAME, length, 7) for length in (5, 20)], [("never", 4)] * 2)
        self.assertEqual(levels_of(((LONG, 0),), FRAME, 20, 1), ("never", 0))

    def test_the_fewest_laid_of_all_ways(self):
        # Level 2 has ((), ..) by two DOTs and by one SHORT: the one counts.
        basket = ((SHORT, None), (DOT, None))
        told = levels_of(basket, (1, 2, 1), 2, 99)
        self.assertEqual(dict(told[1][2])[((), (None, None))], 1)
        self.assertEqual(dict(told[1][1])[((), (None, None))], 1)

    def test_choice_by_choice(self):
        chance = random.Random(61)
        for _ in range(150):
            basket, frame = some_basket(chance, 4, 2), some_frame(chance)
            frame = frame[:2] + (min(frame[2], 2),)
            levels = model_levels(basket, frame, 4)
            counted = sum(len(level) for level in levels)
            due = ("levels", levels) if len(levels) == 5 else ("never", len(levels) - 1)
            for most in (counted, counted + 1, BIG):
                self.assertEqual(levels_of(basket, frame, 4, most), due)
            if counted > 1:
                self.assertEqual(levels_of(basket, frame, 4, counted - 1), ("open", None))

    def test_forty_figures(self):
        basket = (((0, ((BIG, 1), (BIG - 1, 1))), 2),)
        self.assertEqual(levels_of(basket, (BIG, BIG, 1), 2, BIG), ("levels", (
            ((((), (2,)), 0),), (((((0, 1),), (1,)), 1),), (((((0, 1),), (0,)), 2),))))
        self.assertEqual(levels_of(basket, (BIG, BIG, 1), 3, BIG), ("never", 2))
        self.assertEqual(levels_of(basket, (BIG - 1, BIG, 1), 5, BIG), ("never", 4))

    def test_somewhat_beyond_the_bounds_nothing_is_raised(self):
        self.assertEqual(levels_of(((DOT, None),), (1, 1, 1), 25, 99)[0], "levels")
        self.assertEqual(levels_of(((DOT, 20),), (1, 1, 1), 25, 99), ("never", 20))
        levels_of(ONE, FRAME, 0, 0)


if __name__ == "__main__":
    unittest.main()
