"""Of point 10 rows and schedules, of point 11 what is wide."""

import unittest

from evenstrand.rows import is_row, is_schedule, is_wide, laid_out
from evenstrand.strands import is_strand
from tests.samples import (
    BIG, EVEN, NARROW, STEEP, anything, asked_twice, check_nothing_fits, is_truth, nested, not_wisps)

ROW = (NARROW, EVEN, STEEP)
HUGE = (0, ((BIG, BIG),))


class IsRow(unittest.TestCase):
    def test_rows(self):
        for row in ((), (NARROW,), ROW, (NARROW, NARROW), (HUGE,)):
            self.assertTrue(is_truth(self, is_row, row))

    def test_at_most_sixty(self):
        for many in (0, 1, 59, 60, 61, 62):
            self.assertEqual(is_truth(self, is_row, (NARROW,) * many), many <= 60)

    def test_other_things(self):
        check_nothing_fits(self, is_row, anything())
        check_nothing_fits(self, is_row, [NARROW, list(ROW), [], set(), {NARROW: 1}, "-", ((NARROW, 0, None),), (ROW,)])

    def test_other_things_as_wisps(self):
        check_nothing_fits(self, is_row, [(wisp,) for wisp in not_wisps()])
        check_nothing_fits(self, is_row, [(NARROW, wisp, EVEN) for wisp in not_wisps()])


class IsSchedule(unittest.TestCase):
    def test_schedules(self):
        for places in ((0, 0, 0), (0, 1, 2), (5, 5, 9), (7, 8, 8), (0, BIG, BIG), (BIG - 1, BIG - 1, BIG)):
            self.assertTrue(is_truth(self, is_schedule, ROW, places))
        self.assertTrue(is_truth(self, is_schedule, (), ()))
        self.assertTrue(is_truth(self, is_schedule, (NARROW,) * 60, tuple(range(60))))

    def test_none_below_the_one_ahead(self):
        for places in ((1, 0, 2), (0, 2, 1), (9, 8, 7), (BIG, BIG - 1, BIG), (-1, 0, 1), (0, -1, 3), (-3, -2, -1)):
            self.assertFalse(is_truth(self, is_schedule, ROW, places))

    def test_one_too_many_or_too_few(self):
        for places in ((), (0,), (0, 0), (0, 0, 0, 0)):
            self.assertFalse(is_truth(self, is_schedule, ROW, places))
        self.assertFalse(is_truth(self, is_schedule, (), (0,)))
        self.assertFalse(is_truth(self, is_schedule, (NARROW,) * 60, (0,) * 59))
        self.assertFalse(is_truth(self, is_schedule, (NARROW,) * 60, (0,) * 61))

    def test_other_things(self):
        wrong = anything() + [
            [0, 0, 0], (True, 1, 2), (0, True, 2), (False, False, False), (0, 1, True), (None, 1, 2), (0, 1, None),
            ("0", 1, 2), (0, "1", 2), (0, 1, (2,)), ((0,), (1,), (2,)), (0, 1, nested(59)), (0, [], 2), "012", b"012",
            range(3), {0: 0, 1: 1, 2: 2}, {0, 1, 2},
        ]
        check_nothing_fits(self, lambda thing: is_schedule(ROW, thing), wrong)

    def test_other_things_for_a_row_without_wisps(self):
        check_nothing_fits(self, lambda thing: is_schedule((), thing), anything())

    def test_what_is_no_row_has_no_schedule(self):
        check_nothing_fits(self, lambda thing: is_schedule(thing, ()), anything())


class LaidOut(unittest.TestCase):
    def test_by_hand(self):
        self.assertEqual(asked_twice(self, laid_out, ROW, (0, 4, 4)), (
            (NARROW, 0, None), (EVEN, 4, None), (STEEP, 4, None)))

    def test_edges(self):
        self.assertEqual(laid_out((), ()), ())
        self.assertEqual(laid_out((HUGE,), (BIG,)), ((HUGE, BIG, None),))
        told = laid_out((NARROW,) * 60, tuple(range(60)))
        self.assertTrue(is_strand(told))
        self.assertEqual(told[59], (NARROW, 59, None))

    def test_somewhat_beyond_the_bounds_nothing_is_raised(self):
        self.assertEqual(len(laid_out((NARROW,) * 61, (0,) * 61)), 61)
        self.assertEqual(laid_out(ROW, (3,)), ((NARROW, 3, None),))


class IsWide(unittest.TestCase):
    def test_just_at_high_and_one_above(self):
        # NARROW begins 5 thick: 5 and low - 1 together.
        for low, high, fits in ((1, 5, True), (1, 4, False), (4, 8, True), (4, 7, False), (4, 9, True), (1, 0, False)):
            self.assertEqual(asked_twice(self, is_wide, (NARROW,), low, high), fits)
            self.assertIsInstance(is_wide((NARROW,), low, high), bool)

    def test_each_wisp_counts(self):
        self.assertTrue(is_wide(ROW, 3, 10))
        for row in (ROW, ROW[::-1], (STEEP, NARROW), (NARROW, STEEP, EVEN)):
            self.assertFalse(is_wide(row, 3, 9))
        self.assertTrue(is_wide((NARROW, EVEN), 3, 9))

    def test_without_wisps(self):
        self.assertIs(is_wide((), 9, 0), True)

    def test_forty_figures(self):
        self.assertTrue(is_wide((HUGE,), 1, BIG))
        self.assertFalse(is_wide((HUGE,), 2, BIG))
        self.assertTrue(is_wide((NARROW,), BIG - 4, BIG))
        self.assertFalse(is_wide((NARROW,), BIG - 3, BIG))


if __name__ == "__main__":
    unittest.main()
