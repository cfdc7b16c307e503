"""Of point 11 papers of sums."""

import itertools
import random
import unittest

from evenstrand.bounds import lasts
from evenstrand.drawing import drawn, lasting
from evenstrand.rows import laid_out
from evenstrand.sums import shows_thin
from tests.samples import (
    BIG, EVEN, NARROW, anything, asked_twice, check_nothing_fits, full_row, is_truth, model_thick, nested, some_row)

ROW = (NARROW, EVEN, NARROW)
HUGE = (0, ((BIG, BIG), (1, BIG)))


def model_shows(row, low, place, places):
    """What is told of a schedule, by sums at each place."""
    strand = [(wisp, at, None) for wisp, at in zip(row, places)]
    late = all(model_thick(strand[:k], places[k]) < low for k in range(len(row)))
    return late and max(places, default=0) <= place and model_thick(strand, place) < low


class ShowsThin(unittest.TestCase):
    def test_what_is_drawn_late_shows_it(self):
        self.assertTrue(asked_twice(self, shows_thin, ROW, 4, 12, (0, 3, 9)))
        chance = random.Random(20)
        for _ in range(100):
            row, low = some_row(chance, 8), chance.randint(1, 9)
            self.assertTrue(is_truth(self, shows_thin, row, low, lasting(row, low), drawn(row, low)))
            for place in range(lasting(row, low)):
                self.assertFalse(is_truth(self, shows_thin, row, low, place, drawn(row, low)))

    def test_other_papers_show_it_too(self):
        # 5 5 5 2 6 6 6 4 4 4 0 5 5 5 2: thin without the next one at 4 and at 11, too, and thin at 14 and later.
        self.assertTrue(shows_thin(ROW, 4, 14, (0, 4, 11)))
        self.assertTrue(shows_thin(ROW, 4, 99, (0, 4, 11)))
        self.assertTrue(shows_thin(ROW, 4, 18, (0, 7, 15)))
        self.assertFalse(shows_thin(ROW, 4, 13, (0, 4, 11)))

    def test_a_place_just_at_the_place_and_one_above(self):
        self.assertTrue(shows_thin((NARROW, EVEN), 10, 0, (0, 0)))
        self.assertFalse(shows_thin((NARROW, EVEN), 7, 3, (3, 3)))
        self.assertTrue(shows_thin((NARROW, EVEN), 7, 3, (0, 3)))
        self.assertFalse(shows_thin((NARROW, EVEN), 7, 2, (0, 3)))
        self.assertFalse(shows_thin((NARROW, EVEN), 7, 3, (0, 4)))
        self.assertFalse(shows_thin((EVEN,), 1, 0, (1,)))

    def test_thin_at_the_place_just_so_and_not(self):
        # At 3 NARROW is 2 thick and EVEN 4.
        self.assertEqual([shows_thin((NARROW, EVEN), low, 3, (0, 3)) for low in (5, 6, 7, 8)],
                         [False, False, True, True])
        # The wisps ahead are 2 thick at 3: low 3 just so, low 2 not, though all are thin at 9.
        self.assertEqual([shows_thin((NARROW, EVEN), low, 9, (0, 3)) for low in (1, 2, 3)], [False, False, True])

    def test_each_place_counts(self):
        for places in ((0, 2, 9), (0, 3, 8), (0, 0, 0), (0, 3, 4)):
            self.assertFalse(shows_thin(ROW, 4, 40, places))
        for places in ((0, 3, 9), (5, 8, 14), (0, 3, 30), (0, 20, 30)):
            self.assertTrue(shows_thin(ROW, 4, 40, places))

    def test_places_that_fall_too_many_or_too_few(self):
        for places in ((3, 0, 9), (0, 9, 3), (20, 10, 0), (0, 3), (0, 3, 9, 12), (), (0, 3, 9, 9)):
            self.assertFalse(is_truth(self, shows_thin, ROW, 4, 40, places))

    def test_a_row_of_none(self):
        self.assertTrue(is_truth(self, shows_thin, (), 1, 0, ()))
        self.assertTrue(shows_thin((), 1, BIG, ()))
        self.assertFalse(shows_thin((), 1, 5, (0,)))

    def test_a_row_of_sixty(self):
        places, end = drawn(full_row(), 7), lasting(full_row(), 7)
        self.assertTrue(shows_thin(full_row(), 7, end, places))
        self.assertFalse(shows_thin(full_row(), 7, end - 1, places))
        self.assertFalse(shows_thin(full_row(), 7, end, places[:59]))
        self.assertFalse(shows_thin(full_row(), 7, end, places[:59] + (places[59] - 1,)))

    def test_each_small_paper(self):
        chance = random.Random(21)
        for _ in range(25):
            row, low, place = some_row(chance, 3), chance.randint(1, 6), chance.randint(0, 7)
            for places in itertools.product(range(9), repeat=len(row)):
                due = sorted(places) == list(places) and model_shows(row, low, place, places)
                self.assertEqual(is_truth(self, shows_thin, row, low, place, places), due)

    def test_what_is_shown_holds_of_each_schedule(self):
        chance = random.Random(22)
        for _ in range(25):
            row, low = some_row(chance, 3), chance.randint(1, 6)
            papers = list(itertools.combinations_with_replacement(range(9), len(row)))
            latest = max(lasts(laid_out(row, places), low) for places in papers)
            for place in range(9):
                if any(shows_thin(row, low, place, places) for places in papers):
                    self.assertLessEqual(latest, place)

    def test_forty_figures(self):
        row = (HUGE,) * 3
        places = (0, BIG, 2 * BIG)
        self.assertTrue(asked_twice(self, shows_thin, row, BIG, 3 * BIG, places))
        self.assertFalse(shows_thin(row, BIG, 3 * BIG - 1, places))
        self.assertFalse(shows_thin(row, BIG, 3 * BIG, (0, BIG - 1, 2 * BIG)))
        self.assertFalse(shows_thin(row, BIG, BIG + 1, (0, 0, 0)))
        self.assertTrue(shows_thin(row, 3 * BIG + 1, 0, (0, 0, 0)))

    def test_other_things(self):
        wrong = [thing for thing in anything() if thing != (0, 1, None)] + [
            [0, 3, 9], (True, 3, 9), (False, 3, 9), (0, 3, True), (0, None, 9), (None, 3, 9), ("0", 3, 9),
            (0, 3, "9"), (0, (3,), 9), ((0, 3, 9),), (0, 3, nested(59)), (nested(59), 3, 9), (0, [], 9), "039", b"039",
            range(3), {0: 0, 1: 3, 2: 9}, {0, 3, 9}, (-1, 3, 9), (0, 3, -9), (0, 1, None),
        ]
        check_nothing_fits(self, lambda thing: shows_thin(ROW, 4, 12, thing), wrong)
        check_nothing_fits(self, lambda thing: shows_thin((), 4, 12, thing), anything())

    def test_other_things_beside_it(self):
        check_nothing_fits(self, lambda thing: shows_thin(thing, 4, 12, ()), anything())
        check_nothing_fits(self, lambda thing: shows_thin(ROW, thing, 12, (0, 3, 9)), [
            thing for thing in anything() if thing is not BIG])
        check_nothing_fits(self, lambda thing: shows_thin(ROW, 4, thing, (0, 3, 9)), [
            thing for thing in anything() if thing is not BIG])


if __name__ == "__main__":
    unittest.main()
