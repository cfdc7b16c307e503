"""Point 14, and point 3 (d): rows drawn with breaks, and what the breaks cost."""

import itertools
import random
import unittest

from evenstrand.bounds import lasts
from evenstrand.breaking import left
from evenstrand.broken import cost, drawn_with, laid_with, lasting_with, with_breaks
from evenstrand.drawing import drawn, lasting
from evenstrand.rows import is_schedule
from evenstrand.strands import is_strand
from tests.samples import BIG, EVEN, NARROW, STEEP, asked_twice, full_row, some_row, thin_out
from tests.test_breaking import TWENTY, model_kept, some_breaks

# Drawn with low 4 and without breaks: 0, 3, 9, and thin at 12.
ROW = (NARROW, EVEN, NARROW)
HUGE = (0, ((BIG, BIG), (1, BIG)))


def model_run(row, low, breaks):
    """A row drawn with breaks, gone through moment by moment: (moments laid, thin at, kept at each moment)."""
    laps = dict(breaks)
    runs, moments, kept, story, now = [], [], [], [], 0
    while True:
        if now in laps:
            runs = []
            kept = kept[:max(0, len(kept) - laps[now])]
        while sum(places[0] for places in runs) < low and len(moments) < len(row):
            runs.append(thin_out(row[len(moments)]))
            moments.append(now)
        story.append(len(kept))
        if sum(places[0] for places in runs) < low:
            return tuple(moments), now, story
        kept.append(now)
        runs = [places[1:] for places in runs if places[1:]]
        now += 1


def model_laid(row, low, breaks, length):
    moments, _, story = model_run(row, low, breaks)
    if length == 0:
        return 0
    # The last moment is thin: no place is drawn at it.
    come = [now for now, many in enumerate(story[:-1]) if many + 1 == length]
    return sum(moment <= come[0] for moment in moments) if come else None


class WithBreaks(unittest.TestCase):
    def test_by_hand(self):
        self.assertEqual(asked_twice(self, with_breaks, ROW, (0, 3, 9), ((5, 2), (9, 0))), (
            (NARROW, 0, 5), (EVEN, 3, 5), (NARROW, 9, None)))

    def test_a_break_at_the_moment_of_a_wisp_one_ahead_and_one_behind(self):
        for moment, let in ((2, None), (3, None), (4, 4), (5, 5)):
            self.assertEqual(with_breaks((EVEN,), (3,), ((moment, 1),)), ((EVEN, 3, let),))

    def test_the_least_of_several_breaks(self):
        self.assertEqual(with_breaks((EVEN,) * 3, (0, 4, 5), ((0, 0), (4, 0), (6, 0), (7, 0))), (
            (EVEN, 0, 4), (EVEN, 4, 6), (EVEN, 5, 6)))

    def test_without_breaks_and_without_wisps(self):
        self.assertEqual(with_breaks(ROW, (0, 3, 9), ()), ((NARROW, 0, None), (EVEN, 3, None), (NARROW, 9, None)))
        self.assertEqual(with_breaks((), (), ((5, 2),)), ())

    def test_a_break_behind_the_end_is_told_too(self):
        self.assertEqual(with_breaks((EVEN,), (0,), ((99, 1),)), ((EVEN, 0, 99),))

    def test_sixty_wisps_and_twenty_breaks(self):
        told = with_breaks(full_row(), tuple(range(60)), TWENTY)
        self.assertTrue(is_strand(told))
        for (_, at, let), k in zip(told, range(60)):
            self.assertEqual((at, let), (k, next((moment for moment, _ in TWENTY if moment > k), None)))

    def test_forty_figures(self):
        self.assertEqual(with_breaks((HUGE, HUGE), (BIG - 1, BIG), ((BIG, BIG),)), (
            (HUGE, BIG - 1, BIG), (HUGE, BIG, None)))


class DrawnWith(unittest.TestCase):
    def told(self, breaks, row=ROW, low=4):
        return (asked_twice(self, drawn_with, row, low, breaks), asked_twice(self, lasting_with, row, low, breaks))

    def test_by_hand(self):
        # At 5 all fall out, EVEN too, which was laid at 3.
        self.assertEqual(self.told(((5, 2),)), ((0, 3, 5), 8))
        self.assertEqual(self.told(((1, 0), (2, 0))), ((0, 1, 2), 5))
        self.assertEqual(self.told(((1, 0), (2, 0), (4, 0))), ((0, 1, 2), 4))

    def test_the_lap_does_not_matter_to_moments(self):
        for lap in (0, 1, 5, 6, BIG):
            self.assertEqual(self.told(((5, lap),)), ((0, 3, 5), 8))

    def test_a_break_at_moment_zero(self):
        self.assertEqual(self.told(((0, 3),)), ((0, 3, 9), 12))

    def test_a_break_where_a_wisp_is_laid_one_ahead_and_one_behind(self):
        self.assertEqual([self.told(((moment, 0),)) for moment in (2, 3, 4)], [
            ((0, 2, 8), 11), ((0, 3, 9), 12), ((0, 3, 4), 7)])
        self.assertEqual([self.told(((moment, 0),)) for moment in (8, 9, 10)], [
            ((0, 3, 8), 11), ((0, 3, 9), 12), ((0, 3, 9), 10)])

    def test_a_break_just_where_the_row_is_thin_first_one_ahead_and_one_behind(self):
        self.assertEqual([self.told(((moment, 1),)) for moment in (11, 12, 13)], [
            ((0, 3, 9), 11), ((0, 3, 9), 12), ((0, 3, 9), 12)])

    def test_several_laid_at_one_break(self):
        self.assertEqual(self.told(((1, 0),), (NARROW,) * 5, 10), ((0, 0, 1, 1, 4), 4))
        self.assertEqual(self.told(((1, 0),), (NARROW,) * 4, 15), ((0, 0, 0, 1), 1))

    def test_a_row_of_none_and_no_breaks(self):
        self.assertEqual(self.told((), ()), ((), 0))
        self.assertEqual(self.told(((0, 1), (4, 2)), ()), ((), 0))
        for low in (1, 4, 6, 10):
            self.assertEqual(self.told((), ROW, low), (drawn(ROW, low), lasting(ROW, low)))

    def test_a_row_of_sixty_with_twenty_breaks(self):
        for low in (1, 4, 9, 30):
            moments, end, _ = model_run(full_row(), low, TWENTY)
            self.assertEqual(self.told(TWENTY, full_row(), low), (moments, end))
            self.assertTrue(is_schedule(full_row(), moments))

    def test_forty_figures(self):
        self.assertEqual(self.told(((BIG - 1, BIG),), (HUGE,) * 3, BIG), ((0, BIG - 1, 2 * BIG - 1), 3 * BIG - 1))
        self.assertEqual(self.told(((5, 1), (BIG + 5, 1)), (HUGE,) * 3, 1), ((0, 5, BIG + 5), 3 * BIG + 5))


class LaidWith(unittest.TestCase):
    def told(self, lengths, breaks, row=ROW, low=4):
        return [asked_twice(self, laid_with, row, low, breaks, length) for length in lengths]

    def test_by_hand(self):
        # Left at 0 to 7: 0 1 2 3 4, then 3 behind the break, 4, 5; thin at 8, so the sixth place is the last one.
        self.assertEqual(self.told(range(8), ((5, 2),)), [0, 1, 1, 1, 2, 2, 3, None])

    def test_a_length_of_zero(self):
        self.assertEqual(self.told((0,), ()), [0])
        self.assertEqual(self.told((0,), ((0, 5), (3, 3)), (), 9), [0])
        self.assertEqual(self.told((0,), (), ROW, BIG), [0])

    def test_a_length_of_one(self):
        self.assertEqual(self.told((1,), ((0, 9),)), [1])
        self.assertEqual(self.told((1,), (), (NARROW,) * 3, 10), [2])
        self.assertEqual(self.told((1,), (), (), 1), [None])
        self.assertEqual(self.told((1,), (), (NARROW,), 6), [None])

    def test_just_come_to_one_more_and_far_beyond(self):
        self.assertEqual(self.told((9, 10, 12, 13, 14, 99, BIG), ()), [2, 3, 3, None, None, None, None])
        self.assertEqual(self.told((6, 7, 8, 99, BIG), ((5, 2),)), [3, None, None, None, None])

    def test_come_to_lost_by_a_break_and_come_to_again(self):
        # 5 places are there behind moment 4, 3 behind the break at 5: the first time counts.
        self.assertEqual(self.told((4, 5), ((5, 2),)), [2, 2])
        self.assertEqual(self.told((2,), ((2, 9), (5, 9), (8, 9)), (EVEN,) * 4), [1])
        self.assertEqual(self.told((3,), ((2, 9), (4, 9), (6, 0)), (EVEN,) * 4), [4])
        self.assertEqual(self.told((4,), ((2, 1), (4, 1), (6, 2)), (EVEN,) * 4), [3])

    def test_come_to_just_ahead_of_a_break_or_not(self):
        self.assertEqual([self.told((3,), ((moment, 9),), (EVEN,) * 3) for moment in (2, 3, 4)], [[2], [1], [1]])

    def test_no_breaks(self):
        for length in range(1, 15):
            due = None if length > 12 else sum(at < length for at in (0, 3, 9))
            self.assertEqual(self.told((length,), ()), [due])

    def test_a_row_of_sixty(self):
        for breaks in ((), TWENTY):
            for length in (0, 1, 30, 60, 61, 120, 500):
                due = model_laid(full_row(), 6, breaks, length)
                self.assertEqual(self.told((length,), breaks, full_row(), 6), [due])

    def test_forty_figures(self):
        row = (HUGE,) * 3
        self.assertEqual(self.told((BIG - 1, BIG, 2 * BIG, 3 * BIG, 3 * BIG + 1), (), row, BIG), [1, 1, 2, 3, None])
        breaks = ((BIG - 1, BIG),)
        self.assertEqual(self.told((BIG - 1, BIG, BIG + 1, 2 * BIG, 2 * BIG + 1), breaks, row, BIG),
                         [1, 2, 3, 3, None])


class Cost(unittest.TestCase):
    def told(self, breaks, length, row=ROW, low=4):
        return asked_twice(self, cost, row, low, breaks, length)

    def test_by_hand(self):
        self.assertEqual([self.told(((5, 2),), length) for length in (0, 1, 4, 6, 7)], [
            (6, 0), (6, 0), (6, 0), (6, 1), (6, None)])

    def test_no_breaks_cost_nothing(self):
        for length in range(13):
            self.assertEqual(self.told((), length), (0, 0))
        self.assertEqual(self.told((), 13), (0, None))

    def test_a_break_where_nothing_runs_on_costs_nothing_but_its_lap(self):
        self.assertEqual([self.told(((9, lap),), 12) for lap in (0, 1, 9, 99)], [
            (0, 0), (1, None), (9, None), (9, None)])
        self.assertEqual(self.told(((0, 7),), 12), (0, 0))

    def test_a_break_just_where_the_row_is_thin_first_one_ahead_and_one_behind(self):
        # The lap of a break just at the end is lost, too; behind it a break cuts nothing off.
        self.assertEqual([self.told(((moment, 2),), 12) for moment in (11, 12, 13)], [(3, None), (2, 0), (0, 0)])
        self.assertEqual(self.told(((12, 99),), 12), (12, 0))

    def test_a_row_of_none(self):
        self.assertEqual((self.told(((0, 4),), 0, ()), self.told(((3, 4),), 1, ())), ((0, 0), (0, None)))

    def test_forty_figures(self):
        row, breaks = (HUGE,) * 3, ((BIG - 1, BIG),)
        self.assertEqual([self.told(breaks, length, row, BIG) for length in (BIG - 1, BIG, BIG + 1, 2 * BIG + 1)], [
            (BIG, 0), (BIG, 1), (BIG, 1), (BIG, None)])

    def test_never_less_than_nothing(self):
        chance = random.Random(50)
        for _ in range(150):
            row, low, breaks = some_row(chance, 7), chance.randint(1, 8), some_breaks(chance)
            for length in (0, 1, 3, 8, 15):
                lost, more = cost(row, low, breaks, length)
                self.assertGreaterEqual(lost, 0)
                self.assertTrue(more is None or more >= 0)


class MomentByMoment(unittest.TestCase):
    def test_some_cases(self):
        chance = random.Random(51)
        for _ in range(120):
            row, low, breaks = some_row(chance, 8), chance.randint(1, 8), some_breaks(chance)
            moments, end, story = model_run(row, low, breaks)
            self.assertEqual((drawn_with(row, low, breaks), lasting_with(row, low, breaks)), (moments, end))
            self.assertEqual(story, [len(model_kept(now, breaks)) for now in range(end + 1)])
            for length in range(0, 25, 2):
                self.check_length(row, low, breaks, length, story[-1])

    def check_length(self, row, low, breaks, length, kept):
        laid = model_laid(row, low, breaks, length)
        self.assertEqual(laid_with(row, low, breaks, length), laid)
        more = None if laid is None else laid - model_laid(row, low, (), length)
        self.assertEqual(cost(row, low, breaks, length), (model_run(row, low, ())[1] - kept, more))

    def test_somewhat_beyond_the_bounds_nothing_is_raised(self):
        breaks = tuple((k, 1) for k in range(25))
        self.assertEqual(lasting_with((EVEN,) * 61, 4, breaks), 24 + 37 * 6)
        self.assertEqual(laid_with(ROW, 4, (), -1), 0)
        self.assertEqual(cost((STEEP,) * 61, 1, (), 0), (0, 0))


class AllSchedules(unittest.TestCase):
    """Small rows with breaks, all their schedules gone through, whatever is let go early."""

    def first_moments(self, breaks, end):
        """By each length the moment behind which it is there first, by going moment by moment."""
        moments = {}
        for now in range(end):
            moments.setdefault(len(model_kept(now, breaks)) + 1, now + 1)
        return moments

    def check_row(self, row, low, breaks, runs_of_each):
        end = lasting_with(row, low, breaks)
        comes = self.first_moments(breaks, end)
        fewest = {length: laid_with(row, low, breaks, length) for length in comes}
        self.assertNotIn(None, fewest.values())
        for others in itertools.combinations_with_replacement(range(end + 2), len(row)):
            for runs in itertools.product(runs_of_each, repeat=len(row)):
                strand = tuple((wisp, at, min([let for let in (let, run and at + run) if let], default=None))
                               for (wisp, at, let), run in zip(with_breaks(row, others, breaks), runs))
                last = lasts(strand, low)
                self.assertLessEqual(last, end)
                for length, behind in comes.items():
                    if behind <= last:
                        self.assertLessEqual(fewest[length], sum(at < behind for at in others))

    def some_case(self, chance, many):
        row = tuple((0, ((chance.randint(2, 4), chance.randint(1, 2)), (1, chance.randint(1, 2)))) for _ in range(many))
        return row, chance.randint(1, 4), some_breaks(chance, 3, 7)

    def test_with_breaks(self):
        chance = random.Random(52)
        for _ in range(40):
            self.check_row(*self.some_case(chance, chance.randint(0, 4)), (None,))

    def test_whatever_is_let_go_early(self):
        chance = random.Random(53)
        for _ in range(12):
            self.check_row(*self.some_case(chance, 3), (1, 2, None))

    def test_what_is_left_at_the_end_is_never_more_than_without_breaks(self):
        chance = random.Random(54)
        for _ in range(40):
            row, low, breaks = self.some_case(chance, chance.randint(0, 4))
            self.assertLessEqual(left(lasting_with(row, low, breaks), breaks), lasting(row, low))


if __name__ == "__main__":
    unittest.main()
