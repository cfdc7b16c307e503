"""Of point 16 the fewest and their strands; of point 3 (f) that they are exact."""

import random
import unittest

from evenstrand.baskets import steps_of
from evenstrand.fewest import fewest, strand_of
from evenstrand.levels import levels_of
from evenstrand.papers import shows_fewest, shows_way
from evenstrand.strands import is_strand, running, thick
from tests.samples import BIG, EVEN, STEEP, asked_twice, model_of, thin_out
from tests.test_baskets import DOT, LONG, SHORT, model_choices, model_steps, some_basket, some_frame
from tests.test_levels import FRAME, LEVELS, ONE, ways


def manys_of(basket):
    return tuple(many for wisp, many in basket)


def laid_by(basket, frame, way):
    """How many a way lays in all; a KeyError where it goes by no step."""
    return sum(dict(model_steps(basket, frame, state))[coming] for state, coming in zip(way, way[1:]))


def check_way(test, basket, frame, way, length):
    """That it is a way of so many places."""
    test.assertEqual(len(way), length + 1)
    test.assertEqual(way[0], ((), manys_of(basket)))
    laid_by(basket, frame, way)
    test.assertIs(shows_way(basket, frame, way), True)


def check_strand(test, basket, frame, way):
    """That the strand of a way has running at each place what a step with the fewest laid lets run."""
    low, high, hand = frame
    strand = asked_twice(test, strand_of, basket, frame, way)
    test.assertTrue(is_strand(strand))
    for p, (state, coming) in enumerate(zip(way, way[1:])):
        fewest_laid = dict(steps_of(basket, frame, state))[coming]
        test.assertEqual(len([at for _, at, _ in strand if at == p]), fewest_laid)
        runs = sorted((strand[number][0], p - strand[number][1]) for number in running(strand, p))
        due = [sorted((basket[kind][0], age) for kind, age in pairs)
               for pairs, laid, other in model_choices(basket, frame, state) if other == coming and laid == fewest_laid]
        test.assertIn(runs, due)
        test.assertTrue(low <= thick(strand, p) <= high and len(runs) <= hand)
        test.assertEqual(thick(strand, p), sum(model_of(laid, p) for laid in strand))
    test.assertTrue(all(at < len(way) - 1 for _, at, _ in strand))
    for kind, (wisp, many) in enumerate(basket):
        alike = sum(other if other is not None else BIG for same, other in basket if same == wisp)
        test.assertLessEqual(len([laid for laid, _, _ in strand if laid == wisp]), alike)
    return strand


class Fewest(unittest.TestCase):
    def check(self, basket, frame, length, most, laid):
        told = asked_twice(self, fewest, basket, frame, length, most)
        self.assertEqual(told[:2], ("fewest", laid))
        self.assertEqual(len(told), 3)
        check_way(self, basket, frame, told[2], length)
        self.assertEqual(laid_by(basket, frame, told[2]), laid)
        strand = check_strand(self, basket, frame, told[2])
        self.assertEqual(len(strand), laid)
        levels = levels_of(basket, frame, length, most)[1]
        self.assertIs(shows_fewest(basket, frame, length, laid, levels), True)
        self.assertIs(shows_fewest(basket, frame, length, laid + 1, levels), False)

    def test_by_hand(self):
        for length, laid in ((1, 1), (2, 1), (3, 2), (4, 2)):
            self.check(ONE, FRAME, length, 99, laid)
        self.assertEqual(fewest(ONE, FRAME, 4, 99)[2], (
            ((), (2,)), (((0, 1),), (1,)), (((0, 2),), (1,)), (((0, 1),), (0,)), (((0, 2),), (0,))))

    def test_a_length_of_zero(self):
        for basket in (ONE, ((LONG, 0),), ((SHORT, None), (DOT, 3))):
            for most in (1, 2, 99):
                self.assertEqual(asked_twice(self, fewest, basket, FRAME, 0, most), (
                    "fewest", 0, (((), manys_of(basket)),)))

    def test_a_length_of_twenty(self):
        self.check(((SHORT, None),), (2, 2, 1), 20, BIG, 10)
        self.check(((DOT, None),), (1, 1, 1), 20, 99, 20)
        self.check(((DOT, None),), (3, 3, 3), 20, 99, 60)
        self.check(((STEEP, None),), (1, 8, 1), 20, 999, 3)

    def test_the_first_place_that_can_not_be_drawn(self):
        for length in (5, 6, 20):
            self.assertEqual(asked_twice(self, fewest, ONE, FRAME, length, 99), ("never", 4))
        self.assertEqual(fewest(((LONG, 0),), FRAME, 1, 1), ("never", 0))
        self.assertEqual(fewest(((DOT, 9),), (1, 1, 1), 10, 99), ("never", 9))
        self.check(((DOT, 9),), (1, 1, 1), 9, 99, 9)

    def test_most_as_many_as_there_are_states_and_one_fewer(self):
        counted = 0
        for length, level in enumerate(LEVELS):
            counted += len(level)
            self.check(ONE, FRAME, length, counted, min(laid for _, laid in level))
            if counted > 1:
                self.assertEqual(asked_twice(self, fewest, ONE, FRAME, length, counted - 1), ("open", None))
                self.assertEqual(fewest(ONE, FRAME, length, 1), ("open", None))

    def test_open_ahead_of_never_and_never_ahead_of_open(self):
        self.assertEqual([fewest(ONE, FRAME, 20, most) for most in (1, 6)], [("open", None)] * 2)
        self.assertEqual([fewest(ONE, FRAME, length, 7) for length in (5, 20)], [("never", 4)] * 2)
        self.assertEqual(fewest(((LONG, 0),), FRAME, 20, 1), ("never", 0))

    def test_the_last_level_has_fewer_at_another_state(self):
        # 5 thick: LONG and SHORT together; then SHORT may run on, or LONG alone would be too thin.
        self.check(((LONG, 9), (SHORT, 9)), (5, 5, 2), 2, 999, 2)
        self.check(((LONG, 9), (SHORT, 9)), (3, 5, 2), 6, 999, 3)

    def test_what_is_laid_early_is_spared_later(self):
        # The fewest for one place lead to a state from which more must be laid behind it.
        basket = (((0, ((4, 1),)), 1), (SHORT, None))
        self.check(basket, (4, 4, 2), 1, 99, 1)
        self.check(basket, (4, 4, 2), 2, 99, 2)
        self.check(basket, (4, 4, 2), 3, 99, 3)

    def test_hands(self):
        for hand, laid in ((1, ("never", 0)), (2, ("never", 0)), (3, 3)):
            if hand == 3:
                self.check(((SHORT, None),), (6, 6, hand), 2, 99, laid)
            else:
                self.assertEqual(fewest(((SHORT, None),), (6, 6, hand), 2, 99), laid)
        self.check(((SHORT, None),), (1, 9, 2), 7, 99, 4)

    def test_choice_by_choice(self):
        chance = random.Random(70)
        told = set()
        for _ in range(150):
            basket, frame = some_basket(chance, 4, 2), some_frame(chance)
            frame = frame[:2] + (min(frame[2], 2),)
            for length in (1, 3, 4):
                found = ways(basket, frame, length)
                if found:
                    self.check(basket, frame, length, BIG, min(laid for _, laid in found))
                    told.add(min(laid for _, laid in found))
                else:
                    drawn = [many for many in range(length) if ways(basket, frame, many)]
                    self.assertEqual(fewest(basket, frame, length, BIG), ("never", drawn[-1]))
        self.assertTrue(told.issuperset({1, 2, 3, 4}))

    def test_larger_baskets_with_hands_of_three(self):
        chance = random.Random(71)
        for _ in range(25):
            basket, frame = some_basket(chance, 5, 3), some_frame(chance)[:2] + (3,)
            word, told = levels_of(basket, frame, 6, 250)
            if word == "levels":
                self.check(basket, frame, 6, 250, min(laid for _, laid in told[-1]))
            else:
                self.assertEqual(fewest(basket, frame, 6, 250), (word, told))

    def test_forty_figures(self):
        basket = (((0, ((BIG, 1), (BIG - 1, 1))), 2),)
        self.check(basket, (BIG, BIG, 1), 2, BIG, 2)
        self.check(basket, (BIG - 1, BIG, 1), 4, BIG, 2)
        self.assertEqual(fewest(basket, (BIG, BIG, 1), 3, BIG), ("never", 2))
        self.assertEqual(fewest(basket, (BIG - 1, BIG, 1), 5, BIG), ("never", 4))

    def test_somewhat_beyond_the_bounds_nothing_is_raised(self):
        told = fewest(((DOT, None),), (1, 1, 1), 25, 99)
        self.assertEqual(told[:2], ("fewest", 25))
        self.assertEqual(len(strand_of(((DOT, None),), (1, 1, 1), told[2])), 25)
        fewest(ONE, FRAME, 0, 0)


class StrandOf(unittest.TestCase):
    def test_a_way_of_no_step(self):
        for basket in (ONE, ((LONG, 0),), ((SHORT, None), (DOT, 3))):
            self.assertEqual(asked_twice(self, strand_of, basket, FRAME, (((), manys_of(basket)),)), ())

    def test_a_way_of_one_step(self):
        strand = check_strand(self, ONE, FRAME, (((), (2,)), (((0, 1),), (1,))))
        self.assertEqual([laid[:2] for laid in strand], [(LONG, 0)])

    def test_a_way_of_twenty_steps(self):
        way = (((), (None,)),) + ((((0, 1),), (None,)),) * 20
        strand = check_strand(self, ((SHORT, None),), (2, 2, 1), way)
        self.assertEqual([at for _, at, _ in strand], list(range(20)))
        full = fewest(((DOT, None), (SHORT, 0)), (3, 3, 3), 20, 99)[2]
        self.assertEqual(len(check_strand(self, ((DOT, None), (SHORT, 0)), (3, 3, 3), full)), 60)

    def test_what_runs_on_behind_the_places(self):
        way = (((), (1,)), (((0, 1),), (0,)), (((0, 2),), (0,)))
        strand = check_strand(self, ((STEEP, 1),), (1, 8, 1), way)
        self.assertEqual([thick(strand, p) for p in range(2)], [8, 7])

    def test_letting_go_one_and_laying_another_of_its_kind(self):
        way = (((), (2,)), (((0, 1),), (1,)), (((0, 1),), (0,)), (((0, 2),), (0,)))
        strand = check_strand(self, ONE, FRAME, way)
        self.assertEqual((strand[0], strand[1][:2]), ((LONG, 0, 1), (LONG, 1)))

    def test_a_step_by_several_choices_of_which_some_lay_more(self):
        # One DOT or two or three of them come to the same: one is laid.
        self.assertEqual(len(check_strand(self, ((DOT, None),), (1, 3, 3), (((), (None,)),) * 4)), 3)
        # What runs goes on to its end, or is let go for a DOT: nothing is laid.
        way = (((), (1, None)), (((0, 1),), (0, None)), ((), (0, None)))
        self.assertEqual(len(check_strand(self, ((SHORT, 1), (DOT, None)), (1, 2, 2), way)), 1)
        # A wisp at its last place may run or be let go, with nothing laid in either case.
        way = (((), (2, 1)), (((0, 1), (1, 1)), (1, 0)), (((1, 2),), (1, 0)))
        check_strand(self, ((SHORT, 2), (STEEP, 1)), (1, 10, 2), way)

    def test_of_two_of_one_kind_and_age_one_is_let_go(self):
        way = (((), (2,)), (((0, 1), (0, 1)), (0,)), (((0, 2),), (0,)), (((0, 3),), (0,)))
        strand = check_strand(self, ((EVEN, 2),), (4, 8, 2), way)
        self.assertEqual(sorted((laid[2] is None) or laid[2] > 2 for laid in strand), [False, True])
        self.assertEqual([thick(strand, p) for p in range(3)], [8, 4, 4])

    def test_two_kinds_of_the_same_wisp(self):
        basket = ((SHORT, 1), (SHORT, 1))
        told = fewest(basket, (2, 2, 1), 4, 99)
        self.assertEqual(len(check_strand(self, basket, (2, 2, 1), told[2])), 2)

    def test_some_ways(self):
        chance = random.Random(72)
        steps = 0
        for _ in range(250):
            basket, frame = some_basket(chance, 8, 3), some_frame(chance)
            way = (((), manys_of(basket)),)
            while len(way) < chance.randint(2, 21) and model_steps(basket, frame, way[-1]):
                way += (chance.choice(model_steps(basket, frame, way[-1]))[0],)
            check_strand(self, basket, frame, way)
            steps += len(way) - 1
        self.assertGreater(steps, 600)

    def test_wisps_that_were_over_are_not_let_go_again(self):
        basket = ((SHORT, None),)
        strand = strand_of(basket, (2, 2, 1), fewest(basket, (2, 2, 1), 6, 99)[2])
        for wisp, at, let in strand:
            self.assertEqual(len(thin_out(wisp)), 2)
            self.assertTrue(let is None or let > at)


if __name__ == "__main__":
    unittest.main()
