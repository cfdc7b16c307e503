"""Point 4: wisps."""

import itertools
import unittest

from evenstrand.wisps import head, is_wisp, length_of, tail, thick_at, weight_of
from tests.samples import (
    BIG, EVEN, NARROW, STEEP, asked_twice, check_nothing_fits, is_truth, not_wisps, thin_out)

HUGE = (1, ((BIG, BIG), (BIG - 1, BIG - 1), (1, 1)))


def small_wisps():
    """All wisps of at most three steps, up to 3 thick, each 1 to 3 long."""
    for many in (1, 2, 3):
        for thicks in itertools.combinations((3, 2, 1), many):
            for longs in itertools.product((1, 2, 3), repeat=many):
                yield (many % 2, tuple(zip(thicks, longs)))


class IsWisp(unittest.TestCase):
    def test_wisps(self):
        for wisp in (NARROW, EVEN, STEEP, HUGE, (0, ((1, 1),)), (1, ((1, 1),)), (0, ((2, 1), (1, BIG)))):
            self.assertTrue(is_truth(self, is_wisp, wisp))

    def test_all_small_wisps(self):
        for wisp in small_wisps():
            self.assertTrue(is_truth(self, is_wisp, wisp))

    def test_one_to_eight_steps(self):
        for many in range(12):
            wisp = (0, tuple((20 - k, 1) for k in range(many)))
            self.assertEqual(is_truth(self, is_wisp, wisp), 1 <= many <= 8)

    def test_thick_falls(self):
        self.assertTrue(is_wisp((0, ((3, 1), (2, 1), (1, 1)))))
        self.assertFalse(is_wisp((0, ((3, 1), (3, 1), (1, 1)))))
        self.assertFalse(is_wisp((0, ((3, 1), (2, 1), (2, 1)))))
        self.assertFalse(is_wisp((0, ((3, 1), (2, 1), (3, 1)))))
        self.assertFalse(is_wisp((0, ((BIG - 1, 1), (BIG, 1)))))

    def test_sorts(self):
        for sort in (-1, 0, 1, 2, 3, BIG):
            self.assertEqual(is_truth(self, is_wisp, (sort, ((5, 3),))), sort in (0, 1))

    def test_other_things(self):
        check_nothing_fits(self, is_wisp, not_wisps())


class Told(unittest.TestCase):
    def test_by_hand(self):
        self.assertEqual(asked_twice(self, length_of, NARROW), 7)
        self.assertEqual(asked_twice(self, weight_of, NARROW), 23)
        self.assertEqual([thick_at(NARROW, k) for k in range(9)], [5, 5, 5, 2, 2, 2, 2, 0, 0])
        self.assertEqual((length_of(STEEP), weight_of(STEEP)), (8, 36))

    def test_place_by_place(self):
        for wisp in small_wisps():
            places = thin_out(wisp)
            self.assertEqual(asked_twice(self, length_of, wisp), len(places))
            self.assertEqual(asked_twice(self, weight_of, wisp), sum(places))
            told = [asked_twice(self, thick_at, wisp, k) for k in range(len(places) + 3)]
            self.assertEqual(told, places + [0, 0, 0])

    def test_forty_figures(self):
        self.assertEqual(length_of(HUGE), 2 * BIG)
        self.assertEqual(weight_of(HUGE), BIG * BIG + (BIG - 1) * (BIG - 1) + 1)
        edges = [(0, BIG), (BIG - 1, BIG), (BIG, BIG - 1), (2 * BIG - 2, BIG - 1), (2 * BIG - 1, 1), (2 * BIG, 0)]
        for k, thickness in edges:
            self.assertEqual(thick_at(HUGE, k), thickness)


class Parted(unittest.TestCase):
    def test_heads_by_hand(self):
        told = [head(NARROW, k)[1] for k in (1, 3, 4, 7)]
        self.assertEqual(told, [((5, 1),), ((5, 3),), ((5, 3), (2, 1)), ((5, 3), (2, 4))])

    def test_tails_by_hand(self):
        told = [tail(NARROW, k)[1] for k in (0, 2, 3, 4, 6)]
        self.assertEqual(told, [((5, 3), (2, 4)), ((5, 1), (2, 4)), ((2, 4),), ((2, 3),), ((2, 1),)])

    def test_place_by_place(self):
        for wisp in small_wisps():
            places = thin_out(wisp)
            for k in range(len(places) + 1):
                self.check_parted(wisp, places, k)

    def check_parted(self, wisp, places, k):
        if k > 0:
            first = asked_twice(self, head, wisp, k)
            self.assertTrue(is_wisp(first))
            self.assertEqual((first[0], thin_out(first)), (wisp[0], places[:k]))
        if k < len(places):
            rest = asked_twice(self, tail, wisp, k)
            self.assertTrue(is_wisp(rest))
            self.assertEqual((rest[0], thin_out(rest)), (wisp[0], places[k:]))

    def test_whole_is_the_same(self):
        for wisp in (NARROW, EVEN, STEEP, HUGE):
            self.assertEqual(head(wisp, length_of(wisp)), wisp)
            self.assertEqual(tail(wisp, 0), wisp)

    def test_forty_figures(self):
        self.assertEqual(head(HUGE, 1), (1, ((BIG, 1),)))
        self.assertEqual(head(HUGE, BIG), (1, ((BIG, BIG),)))
        self.assertEqual(head(HUGE, BIG + 1), (1, ((BIG, BIG), (BIG - 1, 1))))
        self.assertEqual(tail(HUGE, BIG - 1), (1, ((BIG, 1), (BIG - 1, BIG - 1), (1, 1))))
        self.assertEqual(tail(HUGE, BIG), (1, ((BIG - 1, BIG - 1), (1, 1))))
        self.assertEqual(tail(HUGE, 2 * BIG - 1), (1, ((1, 1),)))

    def test_somewhat_beyond_the_bounds_nothing_is_raised(self):
        self.assertEqual(head(NARROW, 9), NARROW)
        self.assertEqual((head(NARROW, 0), tail(NARROW, 7)), ((0, ()), (0, ())))
        thick_at(NARROW, -1)
        tail(NARROW, -1)


if __name__ == "__main__":
    unittest.main()
