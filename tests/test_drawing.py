"""Of point 10 rows drawn late; of point 3 (b) and (c) that none lasts longer, or comes to a length with fewer."""

import itertools
import random
import unittest

from evenstrand.bounds import lasts, off
from evenstrand.drawing import drawn, drawn_to, lasting
from evenstrand.rows import is_schedule, is_wide, laid_out
from evenstrand.strands import thick
from tests.samples import (
    BIG, EVEN, NARROW, STEEP, asked_twice, full_row, full_strand, model_lasts, model_of, some_row, some_strand)

ROW = (NARROW, EVEN, NARROW)
# 5 5 9 6 6 2 2 0 0 0 4 4 4 4 4 4, then nothing
STRAND = ((NARROW, 0, None), (EVEN, 2, 5), (EVEN, 10, None))
HUGE = (0, ((BIG, BIG), (1, BIG)))


def model_drawn(row, low, strand=(), now=0):
    """The schedule drawn late, each place looked for from now on; and the first place that is thin at last."""
    laid = list(strand)
    places = []
    for wisp in row:
        places.append(model_lasts(laid, low, now))
        laid.append((wisp, places[-1], None))
    return tuple(places), model_lasts(laid, low, now)


def schedules(many, first, last):
    """All schedules of so many wisps at places from first to last."""
    return itertools.combinations_with_replacement(range(first, last + 1), many)


class Drawn(unittest.TestCase):
    def test_by_hand(self):
        # 5 5 5 2+4 .. : at 3 only 2 are left, at 9 EVEN is over, at 12 only 2 are left again.
        self.assertEqual(asked_twice(self, drawn, ROW, 4), (0, 3, 9))
        self.assertEqual(asked_twice(self, lasting, ROW, 4), 12)
        self.assertEqual((drawn(ROW, 3), lasting(ROW, 3)), ((0, 3, 9), 12))
        self.assertEqual((drawn(ROW, 2), lasting(ROW, 2)), ((0, 7, 13), 20))
        self.assertEqual((drawn(ROW, 6), lasting(ROW, 6)), ((0, 0, 6), 7))

    def test_low_one(self):
        self.assertEqual((drawn(ROW, 1), lasting(ROW, 1)), ((0, 7, 13), 20))
        self.assertEqual((drawn((STEEP, EVEN), 1), lasting((STEEP, EVEN), 1)), ((0, 8), 14))

    def test_several_laid_at_one_place(self):
        self.assertEqual((drawn(ROW, 10), lasting(ROW, 10)), ((0, 0, 0), 3))
        self.assertEqual((drawn((NARROW,) * 5, 10), lasting((NARROW,) * 5, 10)), ((0, 0, 3, 3, 6), 7))
        self.assertEqual((drawn((NARROW,) * 6, 10), lasting((NARROW,) * 6, 10)), ((0, 0, 3, 3, 6, 7), 10))
        self.assertEqual((drawn((NARROW,) * 3, 11), lasting((NARROW,) * 3, 11)), ((0, 0, 0), 3))

    def test_all_used_up_at_once(self):
        self.assertEqual((drawn(ROW, 14), lasting(ROW, 14)), ((0, 0, 0), 3))
        self.assertEqual((drawn(ROW, 15), lasting(ROW, 15)), ((0, 0, 0), 0))
        self.assertEqual((drawn(ROW, BIG), lasting(ROW, BIG)), ((0, 0, 0), 0))
        self.assertEqual((drawn(ROW, 99, STRAND, 7), lasting(ROW, 99, STRAND, 7)), ((7, 7, 7), 7))

    def test_a_row_of_none(self):
        self.assertEqual((asked_twice(self, drawn, (), 1), asked_twice(self, lasting, (), 1)), ((), 0))
        self.assertEqual((drawn((), 1, None, 8), lasting((), 1, None, 8)), ((), 8))
        self.assertEqual((drawn((), 3, STRAND, 10), lasting((), 3, STRAND, 10)), ((), 16))

    def test_a_row_of_sixty(self):
        for low in (1, 3, 7, 20, 200, 400):
            places, end = model_drawn(full_row(), low)
            self.assertEqual(asked_twice(self, drawn, full_row(), low), places)
            self.assertEqual(asked_twice(self, lasting, full_row(), low), end)
            self.assertTrue(is_schedule(full_row(), places))

    def test_strand_and_now_left_out(self):
        for low in (1, 4, 6, 10):
            for function in (drawn, lasting):
                told = function(ROW, low)
                self.assertEqual([function(ROW, low, None), function(ROW, low, ()), function(ROW, low, None, 0),
                                  function(ROW, low, (), 0), function(ROW, low, now=0, strand=None)], [told] * 5)
                self.assertEqual(function(ROW, low, STRAND), function(ROW, low, STRAND, 0))
                self.assertEqual(function(ROW, low, None, 7), function(ROW, low, (), 7))

    def test_a_strand_that_is_there_already(self):
        self.assertEqual(asked_twice(self, drawn, (EVEN, NARROW), 4, STRAND), (5, 16))
        self.assertEqual(asked_twice(self, lasting, (EVEN, NARROW), 4, STRAND), 19)
        self.assertEqual((drawn((EVEN,), 4, STRAND, 7), lasting((EVEN,), 4, STRAND, 7)), ((7,), 16))
        self.assertEqual((drawn((EVEN,), 5, STRAND, 10), lasting((EVEN,), 5, STRAND, 10)), ((10,), 16))

    def test_only_now_counts_not_what_was_thin_ahead(self):
        self.assertEqual((drawn(ROW, 4, (), 9), lasting(ROW, 4, (), 9)), ((9, 12, 18), 21))
        self.assertEqual((drawn(ROW, 4, STRAND, 10), lasting(ROW, 4, STRAND, 10)), ((16, 19, 25), 28))

    def test_now_at_each_place(self):
        # 2, 3, 5, 7, 10 and 16 are where something of STRAND begins, changes or is over; 40 is behind its end.
        for now in list(range(20)) + [40]:
            for low in (1, 2, 3, 4, 5, 7, 10):
                places, end = model_drawn(ROW, low, STRAND, now)
                self.assertEqual(asked_twice(self, drawn, ROW, low, STRAND, now), places)
                self.assertEqual(asked_twice(self, lasting, ROW, low, STRAND, now), end)

    def test_row_and_strand_of_sixty_together(self):
        for many in (0, 1, 30, 59, 60):
            strand = full_strand()[:60 - many]
            for now in (0, 50, 500):
                places, end = model_drawn(full_row()[:many], 6, strand, now)
                self.assertEqual(drawn(full_row()[:many], 6, strand, now), places)
                self.assertEqual(lasting(full_row()[:many], 6, strand, now), end)

    def test_place_by_place(self):
        chance = random.Random(10)
        for _ in range(250):
            row, strand = some_row(chance, 8), some_strand(chance)
            low, now = chance.randint(1, 9), chance.randint(0, 25)
            self.assertEqual((drawn(row, low), lasting(row, low)), model_drawn(row, low))
            self.assertEqual((drawn(row, low, strand, now), lasting(row, low, strand, now)),
                             model_drawn(row, low, strand, now))

    def test_never_thin_ahead_of_its_end(self):
        chance = random.Random(11)
        for _ in range(100):
            row, low = some_row(chance, 8), chance.randint(1, 9)
            end = lasting(row, low)
            strand = laid_out(row, drawn(row, low))
            self.assertTrue(all(thick(strand, p) >= low for p in range(end)))
            self.assertLess(thick(strand, end), low)

    def test_never_thick_in_a_wide_frame(self):
        chance = random.Random(12)
        for _ in range(150):
            row, low = some_row(chance, 8), chance.randint(1, 12)
            high = low - 1 + max([wisp[1][0][0] for wisp in row], default=0)
            self.assertTrue(is_wide(row, low, high))
            if lasting(row, low) > 0:
                self.assertEqual(off(laid_out(row, drawn(row, low)), low, high, 0, lasting(row, low)), ())
            self.assertEqual(off(laid_out(row, drawn(row, low)), 0, high, 0, 99), ())

    def test_forty_figures(self):
        row = (HUGE,) * 4
        self.assertEqual((drawn(row, BIG), lasting(row, BIG)), ((0, BIG, 2 * BIG, 3 * BIG), 4 * BIG))
        self.assertEqual((drawn(row, BIG + 1), lasting(row, BIG + 1)), ((0, 0, BIG, 2 * BIG), 3 * BIG))
        self.assertEqual((drawn(row, 1), lasting(row, 1)), ((0, 2 * BIG, 4 * BIG, 6 * BIG), 8 * BIG))
        strand = ((HUGE, BIG, 2 * BIG + 5),)
        self.assertEqual((drawn(row[:2], BIG, strand, BIG), lasting(row[:2], BIG, strand, BIG)),
                         ((2 * BIG, 3 * BIG), 4 * BIG))
        self.assertEqual((drawn(row[:2], 1, strand, BIG), lasting(row[:2], 1, strand, BIG)),
                         ((2 * BIG + 5, 4 * BIG + 5), 6 * BIG + 5))
        self.assertEqual((drawn(row[:1], 1, strand, 5 * BIG), lasting(row[:1], 1, strand, 5 * BIG)),
                         ((5 * BIG,), 7 * BIG))

    def test_somewhat_beyond_the_bounds_nothing_is_raised(self):
        self.assertEqual(len(drawn((EVEN,) * 61, 4)), 61)
        self.assertEqual(lasting((EVEN,) * 61, 4), 61 * 6)
        self.assertEqual(lasting((EVEN,) * 40, 4, ((EVEN, 0, None),) * 40), 41 * 6)
        self.assertEqual(len(drawn(ROW, 0)), 3)


class DrawnTo(unittest.TestCase):
    def test_by_hand(self):
        self.assertEqual(asked_twice(self, drawn_to, ROW, 4, 9), ("drawn", (0, 3)))
        self.assertEqual(asked_twice(self, drawn_to, ROW, 4, 10), ("drawn", (0, 3, 9)))
        self.assertEqual(asked_twice(self, drawn_to, ROW, 4, 13), ("thin", 12, (0, 0, 2)))
        self.assertEqual(drawn_to(ROW, 15, 1), ("thin", 0, (5, 4, 5)))
        self.assertEqual(drawn_to((STEEP, EVEN), 7, 9), ("thin", 6, (2, 4)))

    def test_a_length_of_zero(self):
        for row in ((), ROW, full_row()):
            for low in (1, 4, BIG):
                self.assertEqual(drawn_to(row, low, 0), ("drawn", ()))

    def test_at_lasting_one_below_and_one_above(self):
        self.assertEqual([drawn_to(ROW, 4, length) for length in (11, 12, 13, 14, BIG)], [
            ("drawn", (0, 3, 9)), ("drawn", (0, 3, 9)), ("thin", 12, (0, 0, 2)), ("thin", 12, (0, 0, 2)),
            ("thin", 12, (0, 0, 2))])
        self.assertEqual([drawn_to(full_row(), 7, lasting(full_row(), 7) + more)[0] for more in (-1, 0, 1)],
                         ["drawn", "drawn", "thin"])

    def test_a_row_of_none(self):
        self.assertEqual((drawn_to((), 1, 0), drawn_to((), 1, 1)), (("drawn", ()), ("thin", 0, ())))

    def test_a_wisp_laid_just_at_the_length_is_left_out(self):
        self.assertEqual([drawn_to(ROW, 4, length) for length in (1, 3, 4)], [
            ("drawn", (0,)), ("drawn", (0,)), ("drawn", (0, 3))])

    def test_place_by_place(self):
        chance = random.Random(13)
        for _ in range(150):
            row, low = some_row(chance, 7), chance.randint(1, 9)
            places, end = model_drawn(row, low)
            sums = tuple(model_of((wisp, at, None), end) for wisp, at in zip(row, places))
            for length in range(end + 3):
                due = ("drawn", tuple(p for p in places if p < length)) if length <= end else ("thin", end, sums)
                self.assertEqual(drawn_to(row, low, length), due)

    def test_forty_figures(self):
        row = (HUGE,) * 4
        self.assertEqual(drawn_to(row, BIG, BIG), ("drawn", (0,)))
        self.assertEqual(drawn_to(row, BIG, BIG + 1), ("drawn", (0, BIG)))
        self.assertEqual(drawn_to(row, BIG, 4 * BIG), ("drawn", (0, BIG, 2 * BIG, 3 * BIG)))
        self.assertEqual(drawn_to(row, BIG, 4 * BIG + 1), ("thin", 4 * BIG, (0, 0, 0, 1)))


class AllSchedules(unittest.TestCase):
    """Small rows with all their schedules gone through."""

    def check_row(self, row, low, strand, now):
        places = drawn(row, low, strand, now)
        end = lasting(row, low, strand, now)
        least = [sum(p < length for p in places) for length in range(end + 1)]
        for others in schedules(len(row), now, end + 1):
            self.check_schedule(strand + laid_out(row, others), low, now, end, others, least)

    def check_schedule(self, strand, low, now, end, others, least):
        last = lasts(strand, low, now)
        self.assertLessEqual(last, end)
        for length in range(now, last + 1):
            self.assertLessEqual(least[length], sum(p < length for p in others))

    def test_from_nothing_on(self):
        chance = random.Random(14)
        for _ in range(40):
            row = tuple((0, ((chance.randint(2, 4), chance.randint(1, 2)), (1, chance.randint(1, 2))))
                        for _ in range(chance.randint(0, 4)))
            self.check_row(row, chance.randint(1, 5), (), 0)

    def test_from_a_strand_on(self):
        chance = random.Random(15)
        for _ in range(40):
            row = tuple((1, ((chance.randint(2, 4), chance.randint(1, 2)), (1, chance.randint(1, 2))))
                        for _ in range(chance.randint(0, 3)))
            self.check_row(row, chance.randint(1, 5), some_strand(chance, 3), chance.randint(0, 9))

    def test_whatever_is_let_go_early(self):
        chance = random.Random(16)
        for _ in range(12):
            row = tuple((0, ((chance.randint(2, 3), chance.randint(1, 2)), (1, 1))) for _ in range(3))
            low = chance.randint(1, 4)
            places, end = drawn(row, low), lasting(row, low)
            least = [sum(p < length for p in places) for length in range(end + 1)]
            for others in schedules(3, 0, end + 1):
                for runs in itertools.product((1, 2, None), repeat=3):
                    strand = tuple((wisp, at, None if run is None else at + run)
                                   for wisp, at, run in zip(row, others, runs))
                    self.check_schedule(strand, low, 0, end, others, least)


if __name__ == "__main__":
    unittest.main()
