"""Point 6, and of point 3 (a) the stretches."""

import unittest

from evenstrand.strands import by_sorts, end_of, running
from evenstrand.stretching import stretches
from tests.samples import BIG, EVEN, NARROW, asked_twice, full_strand, model_of, model_thick, some_strands


class Stretches(unittest.TestCase):
    def test_by_hand(self):
        strand = ((NARROW, 0, None), (EVEN, 2, 5))
        self.assertEqual(asked_twice(self, stretches, strand), (
            (0, 2, (0,), (5, 0)), (2, 3, (0, 1), (5, 4)), (3, 5, (0, 1), (2, 4)), (5, 7, (0,), (2, 0))))

    def test_without_wisps(self):
        self.assertEqual(stretches(()), ())

    def test_none_runs_ahead_and_between(self):
        strand = ((EVEN, 10, 12), (EVEN, 3, 4))
        self.assertEqual(stretches(strand), (
            (0, 3, (), (0, 0)), (3, 4, (1,), (0, 4)), (4, 10, (), (0, 0)), (10, 12, (0,), (0, 4))))

    def test_neighbours_that_would_be_alike_are_one(self):
        # The first is let go ahead of its second step; the step's place parts nothing.
        strand = ((NARROW, 0, 2), (EVEN, 8, None))
        self.assertEqual(stretches(strand), ((0, 2, (0,), (5, 0)), (2, 8, (), (0, 0)), (8, 14, (1,), (0, 4))))
        # Let just at the end, and behind it: the let's place parts nothing.
        for let in (7, 9, BIG):
            self.assertEqual(stretches(((NARROW, 0, let), (EVEN, 0, None), (EVEN, 0, 10))), (
                (0, 3, (0, 1, 2), (5, 8)), (3, 6, (0, 1, 2), (2, 8)), (6, 7, (0,), (2, 0))))

    def test_one_after_another_equally_thick(self):
        strand = ((EVEN, 0, None), (EVEN, 6, None))
        self.assertEqual(stretches(strand), ((0, 6, (0,), (0, 4)), (6, 12, (1,), (0, 4))))

    def test_sorts_change_places(self):
        # All together stay 3 thick, of the same two: one of sort 0 and two of sort 1 make it so.
        strand = ((((0, ((2, 1), (1, 1)))), 0, None), ((1, ((1, 2),)), 0, None), ((1, ((1, 1),)), 1, None))
        self.assertEqual(stretches(strand), ((0, 1, (0, 1), (2, 1)), (1, 2, (0, 1, 2), (1, 2))))

    def test_place_by_place(self):
        for strand in some_strands() + [full_strand()]:
            self.check_strand(strand, asked_twice(self, stretches, strand))

    def check_strand(self, strand, told):
        self.assertEqual([start for start, *rest in told], [0, *[end for _, end, *rest in told[:-1]]][:len(told)])
        self.assertEqual(told[-1][1] if told else 0, end_of(strand))
        for start, end, numbers, sorts in told:
            self.assertLess(start, end)
            for p in range(start, end):
                each = [model_of(laid, p) for laid in strand]
                self.assertEqual(numbers, tuple(k for k, t in enumerate(each) if t))
                self.assertEqual((numbers, sorts), (running(strand, p), by_sorts(strand, p)))
                self.assertEqual(sum(sorts), model_thick(strand, p))
        for one, other in zip(told, told[1:]):
            self.assertNotEqual(one[2:], other[2:])

    def test_forty_figures(self):
        strand = (((0, ((BIG, BIG), (1, BIG))), BIG, None), ((1, ((BIG, BIG),)), 1, BIG + 2))
        self.assertEqual(stretches(strand), (
            (0, 1, (), (0, 0)), (1, BIG, (1,), (0, BIG)), (BIG, BIG + 1, (0, 1), (BIG, BIG)),
            (BIG + 1, 2 * BIG, (0,), (BIG, 0)), (2 * BIG, 3 * BIG, (0,), (1, 0))))

    def test_somewhat_beyond_the_bounds_nothing_is_raised(self):
        strand = ((NARROW, 5, 5), (NARROW, 5, 3)) * 31
        self.assertEqual(stretches(strand), ())


if __name__ == "__main__":
    unittest.main()
