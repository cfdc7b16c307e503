"""Point 9, and of point 3 (a) what strands are that are made of others."""

import unittest

from evenstrand.splicing import behind, cut_off, from_on, let_go
from evenstrand.strands import end_of, is_strand, running, thick
from tests.samples import BIG, EVEN, NARROW, asked_twice, model_of, model_thick, some_strands

STRAND = ((NARROW, 0, None), (EVEN, 2, 5), (EVEN, 10, None))
HUGE = ((0, ((BIG, BIG), (1, BIG))), BIG, 3 * BIG - 1)


def thicks(strand, upto=40):
    return [model_thick(strand, p) for p in range(upto)]


class Behind(unittest.TestCase):
    def test_by_hand(self):
        self.assertEqual(asked_twice(self, behind, STRAND, ((NARROW, 1, 4), (EVEN, 0, None)), 7),
                         STRAND + ((NARROW, 8, 11), (EVEN, 7, None)))
        self.assertEqual(behind((), STRAND, 0), STRAND)
        self.assertEqual(behind(STRAND, (), 5), STRAND)
        self.assertEqual(behind((), (), 5), ())

    def test_sixty_in_all(self):
        told = behind(STRAND * 10, STRAND * 10, 3)
        self.assertTrue(is_strand(told))
        self.assertEqual((len(told), told[:30]), (60, STRAND * 10))

    def test_place_by_place(self):
        strands = some_strands(60)
        for one, other in zip(strands, strands[1:]):
            for at in (0, 1, 7):
                told = asked_twice(self, behind, one, other, at)
                self.assertTrue(is_strand(told))
                expected = [x + y for x, y in zip(thicks(one), [0] * at + thicks(other))]
                self.assertEqual(thicks(told), expected)

    def test_forty_figures(self):
        self.assertEqual(behind((), (HUGE,), BIG), ((HUGE[0], 2 * BIG, 4 * BIG - 1),))

    def test_somewhat_beyond_the_bounds_nothing_is_raised(self):
        self.assertEqual(len(behind(STRAND * 20, STRAND, 1)), 63)


class CutOff(unittest.TestCase):
    def test_by_hand(self):
        self.assertEqual(asked_twice(self, cut_off, STRAND, 4), ((NARROW, 0, 4), (EVEN, 2, 4)))
        self.assertEqual(cut_off(STRAND, 2), ((NARROW, 0, 2),))
        self.assertEqual(cut_off(STRAND, 3), ((NARROW, 0, 3), (EVEN, 2, 3)))
        self.assertEqual(cut_off(STRAND, 0), ())
        self.assertEqual(cut_off((), 5), ())

    def test_let_below_at_and_above_the_place(self):
        for p, let in ((4, 4), (5, 5), (6, 5), (99, 5)):
            self.assertEqual(cut_off(((EVEN, 2, 5),), p), ((EVEN, 2, let),))

    def test_let_is_the_place_where_it_was_none(self):
        # It is over at 7, but the let that was None becomes the place all the same.
        self.assertEqual(cut_off(((NARROW, 0, None),), 30), ((NARROW, 0, 30),))

    def test_place_by_place(self):
        for strand in some_strands(80):
            for p in range(0, 32):
                told = asked_twice(self, cut_off, strand, p)
                self.assertTrue(is_strand(told))
                self.assertEqual(thicks(told), thicks(strand)[:p] + [0] * (40 - p))

    def test_forty_figures(self):
        self.assertEqual(cut_off((HUGE,), 2 * BIG), ((HUGE[0], BIG, 2 * BIG),))
        self.assertEqual(cut_off((HUGE,), 3 * BIG), (HUGE,))
        self.assertEqual(cut_off((HUGE,), BIG), ())


class FromOn(unittest.TestCase):
    def test_by_hand(self):
        self.assertEqual(asked_twice(self, from_on, STRAND, 4), (
            ((0, ((2, 3),)), 0, None), ((1, ((4, 4),)), 0, 1), (EVEN, 6, None)))
        self.assertEqual(from_on(STRAND, 2), (((0, ((5, 1), (2, 4))), 0, None), (EVEN, 0, 3), (EVEN, 8, None)))
        self.assertEqual(from_on(STRAND, 0), STRAND)
        self.assertEqual(from_on((), 5), ())

    def test_what_just_ends_at_the_place_is_gone(self):
        strand = ((NARROW, 0, None), (EVEN, 1, 7), (EVEN, 1, 8))
        self.assertEqual(from_on(strand, 6), (
            ((0, ((2, 1),)), 0, None), ((1, ((4, 1),)), 0, 1), ((1, ((4, 1),)), 0, 2)))
        self.assertEqual(from_on(strand, 7), ())
        self.assertEqual(from_on(((EVEN, 1, 5), (EVEN, 1, 6)), 5), (((1, ((4, 2),)), 0, 1),))

    def test_in_their_order(self):
        strand = ((EVEN, 9, None), (NARROW, 0, None), (EVEN, 5, 7), (EVEN, 3, None))
        self.assertEqual(from_on(strand, 5), (
            (EVEN, 4, None), ((0, ((2, 2),)), 0, None), (EVEN, 0, 2), ((1, ((4, 4),)), 0, None)))

    def test_place_by_place(self):
        for strand in some_strands(80):
            for p in range(0, 32):
                told = asked_twice(self, from_on, strand, p)
                self.assertTrue(is_strand(told))
                self.assertEqual(thicks(told, 30), thicks(strand, 30 + p)[p:])

    def test_forty_figures(self):
        self.assertEqual(from_on((HUGE,), BIG), ((HUGE[0], 0, 2 * BIG - 1),))
        self.assertEqual(from_on((HUGE,), 1), ((HUGE[0], BIG - 1, 3 * BIG - 2),))
        self.assertEqual(from_on((HUGE,), 2 * BIG - 1), (((0, ((BIG, 1), (1, BIG))), 0, BIG),))
        self.assertEqual(from_on((HUGE,), 3 * BIG - 2), (((0, ((1, 2),)), 0, 1),))
        self.assertEqual(from_on((HUGE,), 3 * BIG - 1), ())


class CutAndJoined(unittest.TestCase):
    def test_the_same_place_cut_off_and_taken_from_on(self):
        for strand in some_strands(80):
            for p in range(0, 30, 3):
                told = behind(cut_off(strand, p), from_on(strand, p), p)
                self.assertEqual(thicks(told), thicks(strand))
                self.assertEqual(end_of(told), end_of(strand))

    def test_forty_figures(self):
        for p in (BIG, BIG + 1, 2 * BIG, 3 * BIG - 2):
            told = behind(cut_off((HUGE,), p), from_on((HUGE,), p), p)
            for place in (BIG - 1, BIG, p - 1, p, p + 1, 2 * BIG - 1, 2 * BIG, 3 * BIG - 2, 3 * BIG - 1):
                self.assertEqual(thick(told, place), thick((HUGE,), place))


class LetGo(unittest.TestCase):
    def test_by_hand(self):
        self.assertEqual(asked_twice(self, let_go, STRAND, 0, 3), ((NARROW, 0, 3),) + STRAND[1:])
        self.assertEqual(let_go(STRAND, 2, 11), STRAND[:2] + ((EVEN, 10, 11),))

    def test_let_below_at_and_above_the_place(self):
        for p, let in ((3, 3), (4, 4), (5, 5), (6, 5)):
            self.assertEqual(let_go(STRAND, 1, p), (STRAND[0], (EVEN, 2, let), STRAND[2]))

    def test_behind_its_length(self):
        self.assertEqual(let_go(STRAND, 0, 30)[0], (NARROW, 0, 30))

    def test_place_by_place(self):
        for strand in some_strands(60):
            for number, laid in enumerate(strand):
                for p in range(laid[1] + 1, laid[1] + 14):
                    self.check_let_go(strand, number, p)

    def check_let_go(self, strand, number, p):
        told = asked_twice(self, let_go, strand, number, p)
        self.assertTrue(is_strand(told))
        for place in range(32):
            gone = model_of(strand[number], place) if place >= p else 0
            self.assertEqual(model_thick(told, place), model_thick(strand, place) - gone)
            kept = [k for k in running(strand, place) if place < p or k != number]
            self.assertEqual(running(told, place), tuple(kept))

    def test_forty_figures(self):
        self.assertEqual(let_go((HUGE,), 0, BIG + 1), ((HUGE[0], BIG, BIG + 1),))
        self.assertEqual(let_go((HUGE,), 0, 3 * BIG), (HUGE,))

    def test_somewhat_beyond_the_bounds_nothing_is_raised(self):
        self.assertEqual(let_go(STRAND, 3, 9), STRAND)
        let_go(STRAND, 2, 10)


if __name__ == "__main__":
    unittest.main()
