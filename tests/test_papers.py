"""Point 18: papers looked at, whoever made them; of point 3 (f) that they show it."""

import random
import unittest

from evenstrand.fewest import fewest
from evenstrand.levels import levels_of
from evenstrand.longest import heights_of, longest
from evenstrand.papers import shows_fewest, shows_longest, shows_way
from tests.samples import BIG, STEEP, anything, asked_twice, check_nothing_fits, is_truth, nested
from tests.test_baskets import DOT, LONG, SHORT, model_steps, some_basket, some_frame, some_state
from tests.test_fewest import manys_of
from tests.test_levels import FRAME, LEVELS, ONE
from tests.test_longest import HEIGHTS

FIRST = ((), (2,))
WAY = (FIRST, (((0, 1),), (1,)), (((0, 2),), (1,)), (((0, 1),), (0,)), (((0, 2),), (0,)))
TWO = ((LONG, 2), (SHORT, None))
# What is none of the basket TWO with a hand of 2.
NO_STATES = [
    ((), (2,)), ((), (2, None, None)), ((), (3, None)), ((), (-1, None)), ((), (None, None)), ((), (2, 0)),
    ((), (2, 9)),
    ((), (True, None)), ((), (False, None)), ((), ("2", None)), ((), [2, None]), ((), None), ([], (2, None)),
    (None, (2, None)), ((), (2, None), 0), ((),), (), [(), (2, None)], ((2, None), ()), ((), ((2,), None)),
    (((0, 0),), (2, None)), (((0, 3),), (2, None)), (((1, 2),), (2, None)), (((1, 0),), (2, None)),
    (((2, 1),), (2, None)), (((-1, 1),), (2, None)), (((0, -1),), (2, None)), (((BIG, 1),), (2, None)),
    (((0, BIG),), (2, None)), (((0, True),), (2, None)), (((False, 1),), (2, None)), (((True, 1),), (2, None)),
    (((0, None),), (2, None)), (((None, 1),), (2, None)), (((0, "1"),), (2, None)), (((0,),), (2, None)),
    (((0, 1, 0),), (2, None)), (([0, 1],), (2, None)), ([(0, 1)], (2, None)), ((0, 1), (2, None)),
    (((1, 1), (0, 1)), (2, None)), (((0, 2), (0, 1)), (2, None)), (((0, 1),) * 3, (2, None)),
    (((0, 1), (0, 2), (1, 1)), (2, None)), ({(0, 1)}, (2, None)), ((nested(57),), (2, None)), (nested(58), (2, None)),
    ((), nested(58)), (((0, nested(56)),), (2, None)), ((), (nested(57), None)),
] + anything()
NO_NUMBERS = [True, False, -1, None, "3", b"3", [3], (3,), nested(56)]
SOME_STATES = [
    ((), (2, None)), ((), (0, None)), (((0, 1),), (2, None)), (((0, 1), (0, 1)), (1, None)),
    (((0, 2), (1, 1)), (0, None)),
    (((0, 1), (0, 2)), (2, None)), (((1, 1), (1, 1)), (2, None)),
]


def model_shows_way(basket, frame, way):
    """Whether states of a basket are a way."""
    if not way or way[0] != ((), manys_of(basket)):
        return False
    return all(coming in dict(model_steps(basket, frame, state)) for state, coming in zip(way, way[1:]))


def model_shows_fewest(basket, frame, laid, levels):
    """Whether levels of states of a basket, as dicts, show that a length can't be drawn with fewer laid."""
    if levels[0].get(((), manys_of(basket))) != 0:
        return False
    for level, behind in zip(levels, levels[1:]):
        for state, number in level.items():
            for coming, more in model_steps(basket, frame, state):
                if behind.get(coming, BIG) > number + more:
                    return False
    return min(levels[-1].values(), default=BIG) >= laid


def model_shows_longest(basket, frame, length, heights):
    """Whether heights of states of a basket, as a dict, show that none is longer."""
    if heights.get(((), manys_of(basket)), BIG) > length:
        return False
    return all(heights.get(coming, BIG) < height for state, height in heights.items()
               for coming, _ in model_steps(basket, frame, state))


def shuffled(chance, things):
    things = list(things)
    chance.shuffle(things)
    return tuple(things)


class ShowsWay(unittest.TestCase):
    def shows(self, basket, frame, way):
        told = asked_twice(self, shows_way, basket, frame, way)
        self.assertIsInstance(told, bool)
        return told

    def test_ways(self):
        for many in range(1, 6):
            self.assertTrue(self.shows(ONE, FRAME, WAY[:many]))
        self.assertTrue(self.shows(((DOT, None),), (1, 1, 1), (((), (None,)),) * 50))
        self.assertTrue(self.shows(((LONG, 0),), FRAME, (((), (0,)),)))

    def test_told_ways(self):
        for length in (0, 1, 20):
            way = fewest(((SHORT, None), (DOT, 9)), (1, 2, 2), length, 9999)[2]
            self.assertEqual(len(way), length + 1)
            self.assertTrue(self.shows(((SHORT, None), (DOT, 9)), (1, 2, 2), way))
        self.assertTrue(self.shows(TWO, (3, 5, 2), longest(TWO, (3, 5, 2), 300)[1]))
        self.assertTrue(self.shows(ONE, FRAME, longest(ONE, FRAME, 300)[2]))

    def test_the_first_state_stands_first(self):
        self.assertFalse(self.shows(ONE, FRAME, ()))
        for start in (1, 2, 3, 4):
            self.assertFalse(self.shows(ONE, FRAME, WAY[start:]))
        self.assertFalse(self.shows(ONE, FRAME, (((), (1,)),)))
        self.assertFalse(self.shows(ONE, FRAME, (FIRST,) + WAY))

    def test_each_next_one_is_of_a_step(self):
        for number in range(1, 5):
            for state in WAY + (((), (0,)), ((), (1,))):
                changed = WAY[:number] + (state,) + WAY[number + 1:]
                self.assertEqual(self.shows(ONE, FRAME, changed), model_shows_way(ONE, FRAME, changed))
        self.assertFalse(self.shows(ONE, FRAME, WAY[:1] + WAY[2:]))
        self.assertFalse(self.shows(ONE, FRAME, WAY[::-1]))
        self.assertFalse(self.shows(ONE, FRAME, WAY + WAY[-1:]))
        self.assertFalse(self.shows(ONE, (3, 3, 1), WAY[:2] + ((((0, 1), (0, 2)), (0,)),)))
        self.assertTrue(self.shows(ONE, (3, 6, 2), WAY[:2] + ((((0, 1), (0, 2)), (0,)),)))

    def test_by_steps_that_lay_more_than_the_fewest_it_is_a_way_as_well(self):
        # Letting go one and laying another of its kind.
        self.assertTrue(self.shows(ONE, FRAME, (FIRST, (((0, 1),), (1,)), (((0, 1),), (0,)))))

    def test_other_things(self):
        check_nothing_fits(self, lambda thing: shows_way(TWO, (3, 5, 2), thing), anything() + [
            [((), (2, None))], ((), (2, None)), {((), (2, None))}, {((), (2, None)): 0}, [nested(59)], (nested(59),)])
        for thing in NO_STATES:
            for way in ((thing,), (((), (2, None)), thing), (((), (2, None)), (((0, 1),), (1, None)), thing)):
                check_nothing_fits(self, lambda it: shows_way(TWO, (3, 5, 2), it), [way])

    def test_truths_in_the_place_of_numbers(self):
        self.assertTrue(self.shows(((DOT, 1),), (1, 1, 1), (((), (1,)), ((), (0,)))))
        check_nothing_fits(self, lambda thing: shows_way(((DOT, 1),), (1, 1, 1), thing), [
            (((), (True,)),), (((), (True,)), ((), (0,))), (((), (1,)), ((), (False,)))])
        self.assertFalse(shows_way(ONE, FRAME, (FIRST, (((False, 1),), (1,)))))
        self.assertFalse(shows_way(ONE, FRAME, (FIRST, (((0, True),), (1,)))))
        self.assertFalse(shows_way(ONE, FRAME, (FIRST, (((0, 1),), (True,)))))

    def test_of_no_basket_and_no_frame_nothing_is_shown(self):
        for thing in anything():
            self.assertIs(shows_way(thing, FRAME, (FIRST,)), False)
            self.assertIs(shows_way(ONE, thing, (FIRST,)), False)

    def test_some_ways(self):
        chance = random.Random(90)
        told = []
        for _ in range(200):
            basket, frame = some_basket(chance, 4, 2), some_frame(chance)
            way = [((), manys_of(basket))]
            while len(way) < 4 and model_steps(basket, frame, way[-1]):
                way.append(chance.choice(model_steps(basket, frame, way[-1]))[0])
            if chance.random() < 0.4:
                way[chance.randrange(len(way))] = some_state(chance, basket, frame[2])
            told.append(self.shows(basket, frame, tuple(way)))
            self.assertEqual(told[-1], model_shows_way(basket, frame, way))
        self.assertGreater(min(told.count(True), told.count(False)), 40)


class ShowsFewest(unittest.TestCase):
    def shows(self, length, laid, levels, basket=ONE, frame=FRAME):
        told = asked_twice(self, shows_fewest, basket, frame, length, laid, levels)
        self.assertIsInstance(told, bool)
        return told

    def changed(self, number, level):
        return LEVELS[:number] + (level,) + LEVELS[number + 1:]

    def test_told_levels(self):
        for length, laid in ((0, 0), (1, 1), (2, 1), (3, 2), (4, 2)):
            levels = LEVELS[:length + 1]
            self.assertEqual([self.shows(length, many, levels) for many in range(laid + 2)],
                             [True] * (laid + 1) + [False])

    def test_another_order(self):
        self.assertTrue(self.shows(4, 2, tuple(level[::-1] for level in LEVELS)))
        self.assertFalse(self.shows(4, 2, LEVELS[::-1]))
        self.assertFalse(self.shows(4, 2, LEVELS[:2] + (LEVELS[3], LEVELS[2], LEVELS[4])))

    def test_other_states_more(self):
        for number, level in enumerate(LEVELS):
            # From here nothing can be drawn: with any number it bars nothing, but in the last level below laid.
            more = ((((0, 2),), (0,)), 0)
            if more[0] not in dict(level):
                self.assertTrue(self.shows(4, 2, self.changed(number, level + (more,))))
        self.assertTrue(self.shows(4, 2, self.changed(4, LEVELS[4] + ((FIRST, 2),))))
        self.assertFalse(self.shows(4, 2, self.changed(4, LEVELS[4] + ((FIRST, 1),))))
        # From this one more steps lead on, which must be there as well.
        self.assertFalse(self.shows(4, 2, self.changed(1, LEVELS[1] + ((((), (1,)), 0),))))
        self.assertTrue(self.shows(4, 2, self.changed(1, LEVELS[1] + ((((), (1,)), 1),))))
        self.assertFalse(self.shows(4, 2, self.changed(2, LEVELS[2] + ((FIRST, 9),))))
        self.assertTrue(self.shows(4, 2, self.changed(0, LEVELS[0] + ((((), (0,)), BIG),))))
        self.assertFalse(self.shows(4, 2, self.changed(0, LEVELS[0] + ((((), (1,)), BIG),))))

    def test_a_state_twice(self):
        for number, level in enumerate(LEVELS):
            self.assertFalse(self.shows(4, 2, self.changed(number, level + level[:1])))
            state, laid = level[0]
            self.assertFalse(self.shows(4, 2, self.changed(number, level + ((state, laid + 1),))))

    def test_a_state_left_out(self):
        for number, level in enumerate(LEVELS):
            for at in range(len(level)):
                self.assertFalse(self.shows(4, 2, self.changed(number, level[:at] + level[at + 1:])))

    def test_a_number_one_more_or_one_less(self):
        for number, level in enumerate(LEVELS):
            for at, (state, laid) in enumerate(level):
                more = level[:at] + ((state, laid + 1),) + level[at + 1:]
                self.assertFalse(self.shows(4, 2, self.changed(number, more)))
                less = level[:at] + ((state, laid - 1),) + level[at + 1:]
                levels = self.changed(number, less)
                due = laid > 0 and model_shows_fewest(ONE, FRAME, 2, [dict(level) for level in levels])
                self.assertEqual(self.shows(4, 2, levels), due)
        self.assertFalse(self.shows(0, 0, (((FIRST, 1),),)))

    def test_the_first_state_with_none_laid(self):
        self.assertFalse(self.shows(4, 2, self.changed(0, ())))
        self.assertFalse(self.shows(4, 2, self.changed(0, ((((), (1,)), 0),))))
        self.assertFalse(self.shows(0, 0, ((),)))
        self.assertTrue(self.shows(0, 0, (((FIRST, 0),),)))

    def test_a_level_more_or_fewer(self):
        for length in (0, 1, 2, 3, 5, 6, 20, BIG):
            self.assertFalse(self.shows(length, 0, LEVELS))
        self.assertFalse(self.shows(0, 0, ()))
        # Level 5 is empty: then nothing is shown too few.
        for laid in (0, 5, BIG):
            self.assertTrue(self.shows(5, laid, LEVELS + ((),)))
        self.assertTrue(self.shows(6, BIG, LEVELS + ((), ())))
        self.assertFalse(self.shows(4, 2, LEVELS[:4] + ((),)))

    def test_a_last_level_with_one_below_laid(self):
        self.assertFalse(self.shows(2, 2, LEVELS[:3]))
        self.assertTrue(self.shows(2, 1, LEVELS[:3]))
        self.assertFalse(self.shows(4, 3, LEVELS))

    def test_fewer_than_can_be_is_never_shown(self):
        chance = random.Random(91)
        for _ in range(60):
            basket, frame = some_basket(chance, 4, 2), some_frame(chance)
            told = fewest(basket, frame, 3, 60)
            if told[0] == "fewest":
                levels = levels_of(basket, frame, 3, 60)[1]
                mixed = tuple(shuffled(chance, level) for level in levels)
                self.assertTrue(self.shows(3, told[1], mixed, basket, frame))
                self.assertFalse(self.shows(3, told[1] + 1, mixed, basket, frame))

    def test_some_papers(self):
        chance = random.Random(92)
        told = []
        for _ in range(250):
            basket, frame = some_basket(chance, 3, 2), some_frame(chance)[:2] + (2,)
            word, levels = levels_of(basket, frame, 2, 80)
            if word == "levels":
                levels = [dict(level) for level in levels]
                level = chance.choice(levels)
                if chance.random() < 0.4:
                    level[some_state(chance, basket, 2)] = chance.randint(0, 9)
                elif chance.random() < 0.5:
                    del level[chance.choice(list(level))]
                laid = chance.randint(0, 4)
                paper = tuple(shuffled(chance, level.items()) for level in levels)
                told.append(self.shows(2, laid, paper, basket, frame))
                self.assertEqual(told[-1], model_shows_fewest(basket, frame, laid, levels))
        self.assertGreater(min(told.count(True), told.count(False)), 15)

    def test_other_things(self):
        def shows(thing):
            return shows_fewest(TWO, (3, 5, 2), 0, 0, thing)

        first = ((), (2, None))
        self.assertTrue(shows((((first, 0),),)))
        check_nothing_fits(self, shows, anything() + [
            [((first, 0),)], ([(first, 0)],), (([first, 0],),), (((first,),),), (((first, 0, 0),),), ((first, 0),),
            (((first, False),),), (((first, None),),), (((first, "0"),),), (((first, -1),),), (((first, (0,)),),),
            ({(first, 0)},), ({first: 0},), (((0, first),),), (None,), (((first, 0), None),), (((first, 0), ()),),
            (((first, 0), 5),), (((first, 0), nested(57)),), (((first, nested(57)),),), ((nested(58),),), (nested(59),),
        ])
        for state in SOME_STATES[1:]:
            self.assertTrue(shows((((first, 0), (state, 3)),)))
            check_nothing_fits(self, shows, [(((first, 0), (state, wrong)),) for wrong in NO_NUMBERS])
        for state in NO_STATES:
            check_nothing_fits(self, shows, [
                (((first, 0), (state, 3)),), (((state, 0),),), (((state, 0), (first, 0)),)])

    def test_of_no_basket_and_the_like_nothing_is_shown(self):
        paper = (((FIRST, 0),),)
        self.assertTrue(shows_fewest(ONE, FRAME, 0, 0, paper))
        for thing in anything():
            self.assertIs(shows_fewest(thing, FRAME, 0, 0, paper), False)
            self.assertIs(shows_fewest(ONE, thing, 0, 0, paper), False)
            if not isinstance(thing, int) or isinstance(thing, bool) or thing < 0:
                self.assertIs(shows_fewest(ONE, FRAME, thing, 0, paper), False)
                self.assertIs(shows_fewest(ONE, FRAME, 0, thing, paper), False)

    def test_forty_figures(self):
        basket = (((0, ((BIG, 1), (BIG - 1, 1))), 2),)
        frame = (BIG - 1, BIG, 1)
        levels = levels_of(basket, frame, 4, BIG)[1]
        self.assertTrue(self.shows(4, 2, levels, basket, frame))
        self.assertFalse(self.shows(4, BIG, levels, basket, frame))
        self.assertFalse(self.shows(BIG, 2, levels, basket, frame))
        more = (levels[0] + ((((), (0,)), BIG),),) + levels[1:]
        self.assertTrue(self.shows(4, 2, more, basket, frame))


class ShowsLongest(unittest.TestCase):
    def shows(self, length, heights, basket=ONE, frame=FRAME):
        told = asked_twice(self, shows_longest, basket, frame, length, heights)
        self.assertIsInstance(told, bool)
        return told

    def test_told_heights(self):
        self.assertEqual([self.shows(length, HEIGHTS) for length in (0, 3, 4, 5, 20, BIG)],
                         [False, False, True, True, True, True])

    def test_another_order(self):
        self.assertTrue(self.shows(4, HEIGHTS[::-1]))
        self.assertTrue(self.shows(4, HEIGHTS[2:] + HEIGHTS[:2]))

    def test_other_states_more(self):
        # From this one nothing can be drawn, so any height does.
        for height in (0, 1, BIG):
            self.assertTrue(self.shows(4, HEIGHTS + ((((), (0,)), height),)))
        # From this one the states of height 1 come.
        self.assertEqual([self.shows(4, HEIGHTS + ((((), (1,)), height),)) for height in (0, 1, 2, 3)],
                         [False, False, True, True])
        self.assertFalse(self.shows(4, HEIGHTS + (((((0, 1),), (2,)), BIG),)))

    def test_a_state_twice_and_one_left_out(self):
        for number, pair in enumerate(HEIGHTS):
            self.assertFalse(self.shows(9, HEIGHTS + (pair,)))
            self.assertFalse(self.shows(9, HEIGHTS + ((pair[0], pair[1] + 1),)))
            self.assertFalse(self.shows(9, HEIGHTS[:number] + HEIGHTS[number + 1:]))
        self.assertFalse(self.shows(9, ()))

    def test_heights_one_more_and_one_less(self):
        for number, (state, height) in enumerate(HEIGHTS):
            for other in (height - 1, height + 1):
                heights = HEIGHTS[:number] + ((state, other),) + HEIGHTS[number + 1:]
                due = other >= 0 and model_shows_longest(ONE, FRAME, 4, dict(heights))
                self.assertEqual(self.shows(4, heights), due)
        greater = tuple((state, height + 1) for state, height in HEIGHTS)
        self.assertEqual([self.shows(length, greater) for length in (4, 5)], [False, True])

    def test_heights_that_do_not_fall(self):
        for height in (0, 1, 4, BIG):
            self.assertFalse(self.shows(BIG, tuple((state, height) for state, _ in HEIGHTS)))
        # An endless basket has no such heights.
        for heights in (((((), (None,)), 0),), ((((), (None,)), BIG),)):
            self.assertFalse(self.shows(BIG, heights, ((DOT, None),), (1, 1, 1)))

    def test_nothing_can_be_drawn(self):
        for length in (0, 1, BIG):
            self.assertTrue(self.shows(length, ((((), (0,)), 0),), ((LONG, 0),)))
        self.assertFalse(self.shows(0, ((((), (0,)), 1),), ((LONG, 0),)))

    def test_some_papers(self):
        chance = random.Random(93)
        told = []
        for _ in range(400):
            basket, frame = some_basket(chance, 3, 2), some_frame(chance)[:2] + (2,)
            heights = heights_of(basket, frame, 40)
            if heights is not None:
                length = dict(heights)[((), manys_of(basket))]
                self.assertTrue(self.shows(length, shuffled(chance, heights), basket, frame))
                heights = dict(heights)
                if chance.random() < 0.5:
                    heights[some_state(chance, basket, 2)] = chance.randint(0, 9)
                elif chance.random() < 0.5:
                    del heights[chance.choice(list(heights))]
                told.append(self.shows(length, shuffled(chance, heights.items()), basket, frame))
                self.assertEqual(told[-1], model_shows_longest(basket, frame, length, heights))
        self.assertGreater(min(told.count(True), told.count(False)), 25)

    def test_other_things(self):
        # Thinner than low whatever is done: no step leads on.
        def shows(thing):
            return shows_longest(TWO, (30, 50, 2), 5, thing)

        first = ((), (2, None))
        self.assertTrue(shows(((first, 5),)))
        check_nothing_fits(self, shows, anything() + [
            (), [(first, 5)], ([first, 5],), ((first,),), ((first, 5, 0),), (first, 5), ((first, 6),), ((first, True),),
            ((first, None),), ((first, "5"),), ((first, -1),), ((first, (5,)),), {(first, 5)}, {first: 5},
            ((5, first),), ((first, 5), None), ((first, 5), ()), ((first, 5), 5), ((first, 5), nested(58)),
            ((first, nested(58)),),
        ])
        for state in SOME_STATES[1:]:
            self.assertTrue(shows(((first, 5), (state, BIG))))
            check_nothing_fits(self, shows, [((first, 5), (state, wrong)) for wrong in NO_NUMBERS])
        for state in NO_STATES:
            check_nothing_fits(self, shows, [((first, 5), (state, 3)), ((state, 0),), ((state, 0), (first, 0))])

    def test_of_no_basket_and_the_like_nothing_is_shown(self):
        paper = ((((), (0,)), 0),)
        self.assertTrue(shows_longest(((LONG, 0),), FRAME, 0, paper))
        for thing in anything():
            self.assertIs(shows_longest(thing, FRAME, 0, paper), False)
            self.assertIs(shows_longest(((LONG, 0),), thing, 0, paper), False)
            if not isinstance(thing, int) or isinstance(thing, bool) or thing < 0:
                self.assertIs(shows_longest(((LONG, 0),), FRAME, thing, paper), False)

    def test_forty_figures(self):
        basket = (((0, ((BIG, 1), (BIG - 1, 1))), 2),)
        frame = (BIG - 1, BIG, 1)
        heights = heights_of(basket, frame, BIG)
        self.assertEqual([self.shows(length, heights, basket, frame) for length in (3, 4, BIG)], [False, True, True])
        greater = tuple((state, height + BIG - 4) for state, height in heights)
        self.assertEqual([self.shows(length, greater, basket, frame) for length in (4, BIG - 1, BIG)],
                         [False, False, True])

    def test_larger_papers(self):
        heights = heights_of(((STEEP, 3), (DOT, 2)), (3, 8, 2), 9999)
        length = dict(heights)[((), (3, 2))]
        self.assertTrue(self.shows(length, heights, ((STEEP, 3), (DOT, 2)), (3, 8, 2)))
        self.assertFalse(self.shows(length - 1, heights, ((STEEP, 3), (DOT, 2)), (3, 8, 2)))
        self.assertFalse(self.shows(length, heights[:-1], ((STEEP, 3), (DOT, 2)), (3, 8, 2)))


class States(unittest.TestCase):
    def test_states_of_the_basket(self):
        for state in SOME_STATES:
            paper = ((((), (2, None)), 0), (state, 1))[state == SOME_STATES[0]:]
            self.assertTrue(is_truth(self, shows_longest, TWO, (30, 50, 2), 1, paper))

    def test_the_hand_bounds_the_ages(self):
        first = ((), (9,))
        for hand in (1, 2, 3):
            for many in range(5):
                paper = ((first, 0), ((((0, 1),) * many, (8,)), 1))
                self.assertEqual(is_truth(self, shows_longest, ((LONG, 9),), (30, 50, hand), 1, paper), many <= hand)


if __name__ == "__main__":
    unittest.main()
