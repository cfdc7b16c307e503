"""Point 7, and of point 8 lasts."""

import unittest

from evenstrand.bounds import first_off, lasts, off, thickest, thinnest
from tests.samples import BIG, EVEN, NARROW, asked_twice, full_strand, model_thick, some_strands

# 5 5 9 6 6 2 2 0 0 0 4 4 4 4 4 4, then nothing
STRAND = ((NARROW, 0, None), (EVEN, 2, 5), (EVEN, 10, None))
HUGE = (((0, ((BIG, BIG), (1, BIG))), BIG, None), ((1, ((BIG, BIG),)), 1, BIG + 2))


def model_runs(strand, low, high, a, b):
    """The runs that are off, grown place by place."""
    runs = []
    for p in range(a, b):
        thickness = model_thick(strand, p)
        word = "thin" if thickness < low else "thick" if thickness > high else None
        if word and runs and runs[-1][1:] == (p, word):
            runs[-1] = (runs[-1][0], p + 1, word)
        elif word:
            runs.append((p, p + 1, word))
    return tuple(runs)


class Off(unittest.TestCase):
    def test_by_hand(self):
        self.assertEqual(asked_twice(self, off, STRAND, 4, 5, 0, 20), (
            (2, 5, "thick"), (5, 10, "thin"), (16, 20, "thin")))
        self.assertEqual(asked_twice(self, first_off, STRAND, 4, 5, 0, 20), (2, "thick", 9))
        self.assertEqual(first_off(STRAND, 4, 5, 3, 20), (3, "thick", 6))
        self.assertEqual(first_off(STRAND, 4, 9, 0, 20), (5, "thin", 2))
        self.assertEqual(first_off(STRAND, 4, 9, 8, 20), (8, "thin", 0))

    def test_within_bounds_nothing_is_off(self):
        self.assertEqual((off(STRAND, 5, 9, 0, 5), first_off(STRAND, 5, 9, 0, 5)), ((), None))
        self.assertEqual((off(STRAND, 4, 4, 10, 16), first_off(STRAND, 4, 4, 10, 16)), ((), None))

    def test_low_as_high(self):
        self.assertEqual(off(STRAND, 6, 6, 0, 12), ((0, 2, "thin"), (2, 3, "thick"), (5, 12, "thin")))

    def test_low_zero_is_never_thin(self):
        self.assertEqual(off(STRAND, 0, 8, 0, 99), ((2, 3, "thick"),))
        self.assertEqual(off(STRAND, 0, 0, 0, 99), ((0, 7, "thick"), (10, 16, "thick")))
        self.assertIsNone(first_off(STRAND, 0, 9, 0, 99))

    def test_from_a_on_below_b(self):
        self.assertEqual(off(STRAND, 4, 5, 4, 6), ((4, 5, "thick"), (5, 6, "thin")))
        self.assertEqual(off(STRAND, 4, 5, 5, 6), ((5, 6, "thin"),))
        self.assertEqual(off(STRAND, 4, 5, 9, 10), ((9, 10, "thin"),))
        self.assertEqual(off(STRAND, 4, 5, 9, 17), ((9, 10, "thin"), (16, 17, "thin")))
        self.assertEqual(off(STRAND, 4, 5, 10, 16), ())
        self.assertIsNone(first_off(STRAND, 4, 5, 10, 16))
        self.assertEqual(first_off(STRAND, 4, 5, 10, 17), (16, "thin", 0))

    def test_behind_the_end(self):
        self.assertEqual(off(STRAND, 1, 5, 16, 17), ((16, 17, "thin"),))
        self.assertEqual(off(STRAND, 1, 5, 50, 60), ((50, 60, "thin"),))
        self.assertEqual(first_off(STRAND, 1, 5, 50, 60), (50, "thin", 0))
        self.assertEqual(off(STRAND, 0, 5, 50, 60), ())

    def test_a_run_goes_on_over_several_stretches(self):
        self.assertEqual(off(STRAND, 10, 10, 0, 30), ((0, 30, "thin"),))
        self.assertEqual(off(STRAND, 0, 1, 0, 30), ((0, 7, "thick"), (10, 16, "thick")))

    def test_without_wisps(self):
        self.assertEqual(off((), 1, 1, 3, 9), ((3, 9, "thin"),))
        self.assertEqual((off((), 0, 0, 3, 9), first_off((), 0, 0, 3, 9)), ((), None))

    def test_place_by_place(self):
        for strand in some_strands(60):
            for low, high in ((0, 0), (0, 4), (1, 1), (2, 5), (4, 4), (6, 9)):
                for a, b in ((0, 35), (0, 1), (3, 11), (7, 8), (5, 30), (28, 40)):
                    self.check_off(strand, low, high, a, b)

    def check_off(self, strand, low, high, a, b):
        runs = model_runs(strand, low, high, a, b)
        self.assertEqual(off(strand, low, high, a, b), runs)
        first = (runs[0][0], runs[0][2], model_thick(strand, runs[0][0])) if runs else None
        self.assertEqual(first_off(strand, low, high, a, b), first)

    def test_forty_figures(self):
        self.assertEqual(off(HUGE, 2, BIG, 0, 9 * BIG), (
            (0, 1, "thin"), (BIG, BIG + 1, "thick"), (2 * BIG, 9 * BIG, "thin")))
        self.assertEqual(off(HUGE, BIG, BIG, 1, 2 * BIG), ((BIG, BIG + 1, "thick"),))
        self.assertEqual(first_off(HUGE, BIG, BIG, 1, 2 * BIG), (BIG, "thick", 2 * BIG))
        self.assertEqual(first_off(HUGE, BIG, 2 * BIG, 1, 2 * BIG + 1), (2 * BIG, "thin", 1))


class Extremes(unittest.TestCase):
    def test_by_hand(self):
        self.assertEqual(asked_twice(self, thinnest, STRAND, 0, 5), (5, 0))
        self.assertEqual(asked_twice(self, thickest, STRAND, 0, 16), (9, 2))
        self.assertEqual(thinnest(STRAND, 0, 16), (0, 7))
        self.assertEqual(thinnest(STRAND, 0, 7), (2, 5))
        self.assertEqual(thinnest(STRAND, 6, 7), (2, 6))
        self.assertEqual(thinnest(STRAND, 10, 17), (0, 16))
        self.assertEqual(thickest(STRAND, 3, 16), (6, 3))
        self.assertEqual(thickest(STRAND, 7, 11), (4, 10))
        self.assertEqual(thickest(STRAND, 7, 10), (0, 7))

    def test_the_first_place_of_several(self):
        strand = ((EVEN, 0, 2), (NARROW, 2, 3), (EVEN, 3, 5), (NARROW, 5, 6))
        self.assertEqual((thinnest(strand, 0, 6), thickest(strand, 0, 6)), ((4, 0), (5, 2)))
        self.assertEqual((thinnest(strand, 2, 6), thickest(strand, 3, 6)), ((4, 3), (5, 5)))

    def test_behind_the_end_and_without_wisps(self):
        self.assertEqual((thinnest(STRAND, 40, 50), thickest(STRAND, 40, 50)), ((0, 40), (0, 40)))
        self.assertEqual((thinnest((), 0, 1), thickest((), 4, BIG)), ((0, 0), (0, 4)))

    def test_place_by_place(self):
        for strand in some_strands(60):
            for a in range(0, 34, 4):
                for b in range(a + 1, 36, 3):
                    self.check_extremes(strand, a, b)

    def check_extremes(self, strand, a, b):
        told = [model_thick(strand, p) for p in range(a, b)]
        self.assertEqual(thinnest(strand, a, b), (min(told), a + told.index(min(told))))
        self.assertEqual(thickest(strand, a, b), (max(told), a + told.index(max(told))))

    def test_forty_figures(self):
        self.assertEqual(thinnest(HUGE, 1, 3 * BIG), (1, 2 * BIG))
        self.assertEqual(thickest(HUGE, 0, 3 * BIG), (2 * BIG, BIG))
        self.assertEqual(thickest(HUGE, BIG + 1, 3 * BIG), (BIG, BIG + 1))
        self.assertEqual(thinnest(HUGE, 1, 3 * BIG + 1), (0, 3 * BIG))


class Lasts(unittest.TestCase):
    def test_by_hand(self):
        self.assertEqual([asked_twice(self, lasts, STRAND, low) for low in (1, 2, 3, 5, 6, 99)], [7, 7, 5, 5, 0, 0])

    def test_now_is_zero_where_it_is_left_out(self):
        for low in (1, 3, 6):
            self.assertEqual(lasts(STRAND, low), lasts(STRAND, low, 0))

    def test_from_now_on(self):
        told = [asked_twice(self, lasts, STRAND, 3, now) for now in (0, 4, 5, 6, 7, 9, 10, 15, 16, 17, 40)]
        self.assertEqual(told, [5, 5, 5, 6, 7, 9, 16, 16, 16, 17, 40])
        self.assertEqual(lasts(STRAND, 6, 2), 5)

    def test_without_wisps(self):
        self.assertEqual((lasts((), 1), lasts((), 1, 7)), (0, 7))

    def test_place_by_place(self):
        for strand in some_strands() + [full_strand()]:
            for low in (1, 2, 4, 7):
                for now in (0, 1, 6, 13, 30):
                    place = next(p for p in range(now, 300) if model_thick(strand, p) < low)
                    self.assertEqual(lasts(strand, low, now), place)

    def test_forty_figures(self):
        self.assertEqual([lasts(HUGE, low, 1) for low in (1, 2, BIG, BIG + 1)], [3 * BIG, 2 * BIG, 2 * BIG, 1])
        self.assertEqual(lasts(HUGE, BIG + 1, BIG), BIG + 1)
        self.assertEqual(lasts(HUGE, 1, 5 * BIG), 5 * BIG)


class Beyond(unittest.TestCase):
    def test_somewhat_beyond_the_bounds_nothing_is_raised(self):
        self.assertEqual((off(STRAND, 5, 4, 3, 3), first_off(STRAND, 5, 4, 3, 2)), ((), None))
        self.assertEqual((thinnest(STRAND, 3, 3), thickest(STRAND, 3, 3)), (None, None))
        self.assertEqual(lasts(STRAND, 0, 3), 16)


if __name__ == "__main__":
    unittest.main()
