"""Point 13: breaks, what is left, and whose places."""

import itertools
import random
import unittest

from evenstrand.breaking import are_breaks, kept_moments, left, moment_of
from tests.samples import BIG, anything, asked_twice, check_nothing_fits, is_truth, nested

# At 4 falls off 3: 0 1 2 are left; at 7 fall off 2 4 5 6: 0 1 are left; at 10 nothing: 0 1 7 8 9.
BREAKS = ((4, 1), (7, 4), (10, 0))
TWENTY = tuple((3 * k + 2, k % 5) for k in range(20))


def model_kept(moment, breaks):
    """The moments whose places are left, by going moment by moment."""
    laps = dict(breaks)
    kept = []
    for now in range(moment + 1):
        kept = kept[:max(0, len(kept) - laps.get(now, 0))]
        if now < moment:
            kept.append(now)
    return kept


def runs_of(moments):
    """The longest runs (start, end) of rising moments."""
    runs = []
    for moment in moments:
        if runs and runs[-1][1] == moment:
            runs[-1] = (runs[-1][0], moment + 1)
        else:
            runs.append((moment, moment + 1))
    return tuple(runs)


def some_breaks(chance, most=5, last=20):
    moments = sorted(chance.sample(range(last + 1), chance.randint(0, most)))
    return tuple((moment, chance.choice([0, 1, 1, 2, 3, 5, 9, 40])) for moment in moments)


class AreBreaks(unittest.TestCase):
    def test_breaks(self):
        for thing in ((), ((0, 0),), ((5, 0),), BREAKS, TWENTY, ((0, 9), (1, 9), (2, 9)), ((0, BIG), (BIG, BIG))):
            self.assertTrue(is_truth(self, are_breaks, thing))

    def test_at_most_twenty(self):
        for many in (0, 1, 19, 20, 21, 22):
            self.assertEqual(is_truth(self, are_breaks, tuple((k, 1) for k in range(many))), many <= 20)

    def test_moments_rise_unlike(self):
        for moments in ((3, 3), (4, 3), (0, 0), (1, 5, 5), (1, 5, 4), (5, 1, 6), (BIG, BIG), (BIG, 0)):
            self.assertFalse(is_truth(self, are_breaks, tuple((moment, 1) for moment in moments)))
        for moments in ((0, 1), (3, 4), (0, BIG - 1, BIG)):
            self.assertTrue(is_truth(self, are_breaks, tuple((moment, 1) for moment in moments)))

    def test_other_things(self):
        check_nothing_fits(self, are_breaks, anything() + [
            (4, 1), [(4, 1)], [], ([4, 1],), ((4, 1), [7, 4]), ((True, 1),), ((False, 0),), ((4, True),), ((4, False),),
            ((4,),), ((4, 1, 0),), ((4, 1, None),), ((),), (((4, 1),),), (("4", 1),), ((4, "1"),), ((None, 1),),
            ((4, None),), ((4, (1,)),), (((4,), 1),), ("41",), (b"41",), ({4: 1, 5: 2},), ({4, 1},), {(4, 1)}, {4: 1},
            ((-1, 1),), ((4, -1),), ((4, 1), (7, -1)), ((4, 1), None), ((4, 1), 7), ((4, nested(58)),),
            ((nested(58), 1),), ((4, 1), nested(59)), (range(2),), "", "41",
        ])


class Left(unittest.TestCase):
    def test_by_hand(self):
        told = [asked_twice(self, left, moment, BREAKS) for moment in range(13)]
        self.assertEqual(told, [0, 1, 2, 3, 3, 4, 5, 2, 3, 4, 5, 6, 7])

    def test_without_breaks(self):
        for moment in (0, 1, 7, BIG):
            self.assertEqual(left(moment, ()), moment)

    def test_a_break_at_moment_zero(self):
        for lap in (0, 1, 9):
            self.assertEqual([left(moment, ((0, lap),)) for moment in (0, 1, 5)], [0, 1, 5])

    def test_a_lap_of_none_of_just_as_many_and_of_more(self):
        self.assertEqual([left(6, ((6, lap),)) for lap in (0, 1, 5, 6, 7, 99)], [6, 5, 1, 0, 0, 0])
        self.assertEqual([left(8, ((6, lap),)) for lap in (0, 1, 5, 6, 7, 99)], [8, 7, 3, 2, 2, 2])
        self.assertEqual([left(5, ((6, lap),)) for lap in (0, 6, 99)], [5, 5, 5])

    def test_far_behind_the_last_break(self):
        self.assertEqual(left(1000, BREAKS), 995)
        self.assertEqual(left(BIG, BREAKS), BIG - 5)

    def test_forty_figures(self):
        breaks = ((BIG - 9, 4), (BIG - 2, BIG), (BIG, 1))
        self.assertEqual([left(moment, breaks) for moment in (BIG - 10, BIG - 9, BIG - 3, BIG - 2, BIG - 1, BIG)],
                         [BIG - 10, BIG - 13, BIG - 7, 0, 1, 1])
        self.assertEqual(left(BIG, ((BIG - 1, BIG - 2),)), 2)


class KeptMoments(unittest.TestCase):
    def test_by_hand(self):
        told = [asked_twice(self, kept_moments, moment, BREAKS) for moment in (0, 1, 3, 4, 5, 6, 7, 8, 10, 12)]
        self.assertEqual(told, [
            (), ((0, 1),), ((0, 3),), ((0, 3),), ((0, 3), (4, 5)), ((0, 3), (4, 6)), ((0, 2),), ((0, 2), (7, 8)),
            ((0, 2), (7, 10)), ((0, 2), (7, 12))])

    def test_a_lap_of_none_parts_no_run(self):
        self.assertEqual(kept_moments(9, ((3, 0), (6, 0))), ((0, 9),))
        self.assertEqual(kept_moments(9, ((0, 0), (1, 0))), ((0, 9),))

    def test_all_cut_off(self):
        self.assertEqual([kept_moments(6, ((6, lap),)) for lap in (5, 6, 7)], [((0, 1),), (), ()])
        self.assertEqual([kept_moments(7, ((6, lap),)) for lap in (5, 6, 7)], [((0, 1), (6, 7)), ((6, 7),), ((6, 7),)])

    def test_what_was_drawn_ahead_of_an_earlier_break(self):
        breaks = ((5, 1), (8, 1), (10, 5))
        self.assertEqual(kept_moments(9, breaks), ((0, 4), (5, 7), (8, 9)))
        self.assertEqual(kept_moments(10, breaks), ((0, 3),))
        self.assertEqual(kept_moments(11, ((5, 1), (8, 1), (10, 4))), ((0, 4), (10, 11)))
        self.assertEqual(kept_moments(11, ((5, 1), (8, 1), (10, 3))), ((0, 4), (5, 6), (10, 11)))
        self.assertEqual(kept_moments(11, ((5, 1), (8, 1), (10, 2))), ((0, 4), (5, 7), (10, 11)))

    def test_forty_figures(self):
        breaks = ((BIG - 9, 4), (BIG - 2, 8), (BIG, 1))
        self.assertEqual(kept_moments(BIG - 9, breaks), ((0, BIG - 13),))
        self.assertEqual(kept_moments(BIG - 3, breaks), ((0, BIG - 13), (BIG - 9, BIG - 3)))
        self.assertEqual(kept_moments(BIG - 2, breaks), ((0, BIG - 14),))
        self.assertEqual(kept_moments(BIG, breaks), ((0, BIG - 14), (BIG - 2, BIG - 1)))
        self.assertEqual(kept_moments(BIG, ((5, BIG),)), ((5, BIG),))


class MomentOf(unittest.TestCase):
    def test_by_hand(self):
        self.assertEqual([asked_twice(self, moment_of, place, 12, BREAKS) for place in range(7)],
                         [0, 1, 7, 8, 9, 10, 11])

    def test_the_first_and_the_last_place_of_each_run(self):
        for moment in range(70):
            places = 0
            for start, end in kept_moments(moment, TWENTY):
                self.assertEqual(moment_of(places, moment, TWENTY), start)
                places += end - start
                self.assertEqual(moment_of(places - 1, moment, TWENTY), end - 1)
            self.assertEqual(places, left(moment, TWENTY))

    def test_forty_figures(self):
        breaks = ((BIG - 9, 4),)
        self.assertEqual([moment_of(place, BIG, breaks) for place in (0, BIG - 14, BIG - 13, BIG - 5)],
                         [0, BIG - 14, BIG - 9, BIG - 1])


class MomentByMoment(unittest.TestCase):
    def check_all(self, moment, breaks):
        kept = model_kept(moment, breaks)
        self.assertEqual(left(moment, breaks), len(kept))
        self.assertEqual(kept_moments(moment, breaks), runs_of(kept))
        self.assertEqual([moment_of(place, moment, breaks) for place in range(len(kept))], kept)

    def test_each_small_case(self):
        for moments in itertools.combinations(range(6), 3):
            for laps in itertools.product((0, 1, 2, 3, 7), repeat=3):
                for moment in range(8):
                    self.check_all(moment, tuple(zip(moments, laps)))

    def test_some_larger_cases(self):
        chance = random.Random(40)
        for _ in range(200):
            breaks = some_breaks(chance, 8)
            for moment in (0, 1, chance.randint(0, 21), 21, 35):
                self.check_all(moment, breaks)
            for at, _ in breaks:
                for moment in (at - 1, at, at + 1):
                    self.check_all(max(moment, 0), breaks)

    def test_twenty_breaks(self):
        for moment in range(70):
            self.check_all(moment, TWENTY)

    def test_somewhat_beyond_the_bounds_nothing_is_raised(self):
        breaks = tuple((k, 0) for k in range(25))
        self.assertEqual((left(30, breaks), kept_moments(30, breaks)), (30, ((0, 30),)))
        moment_of(7, 7, ())


if __name__ == "__main__":
    unittest.main()
