"""Of point 12 mixtures and their picks; point 3 (e)."""

import random
import unittest

from evenstrand.mixing import are_mixtures, sort_by, sort_of, taken
from tests.samples import BIG, anything, asked_twice, check_nothing_fits, is_truth, nested

MIXTURES = ((0, 2, 1), (4, 0, 3), (7, 1, 1), (8, 5, 2))
SMALL = [(m, n) for m in range(6) for n in range(6) if m + n > 0]


def picks(mixture, many):
    return [sort_of(mixture, k) for k in range(many)]


class SortOf(unittest.TestCase):
    def test_by_hand(self):
        self.assertEqual(picks((1, 1), 6), [1, 0, 1, 0, 1, 0])
        self.assertEqual(picks((2, 1), 6), [1, 0, 0, 1, 0, 0])
        self.assertEqual(picks((1, 2), 6), [1, 1, 0, 1, 1, 0])
        self.assertEqual(picks((2, 3), 10), [1, 1, 0, 1, 0] * 2)
        self.assertEqual(asked_twice(self, sort_of, (2, 3), 4), 0)

    def test_m_or_n_zero(self):
        self.assertEqual((picks((3, 0), 7), picks((0, 3), 7)), ([0] * 7, [1] * 7))
        self.assertEqual((picks((1, 0), 7), picks((0, 1), 7)), ([0] * 7, [1] * 7))

    def test_as_the_words_say(self):
        for m, n in SMALL:
            for k in range(30):
                due = 0 if (k + 1) * m // (m + n) > k * m // (m + n) else 1
                self.assertEqual(sort_of((m, n), k), due)

    def test_forty_figures(self):
        self.assertEqual((sort_of((BIG, BIG), BIG), sort_of((BIG, BIG), BIG - 1)), (0, 1))
        self.assertEqual((sort_of((1, BIG - 1), BIG - 1), sort_of((1, BIG - 1), BIG - 2)), (0, 1))
        self.assertEqual((sort_of((BIG, 1), 0), sort_of((BIG, 1), 1), sort_of((BIG, 1), BIG)), (1, 0, 0))
        self.assertEqual((sort_of((BIG, 0), BIG), sort_of((0, BIG), BIG)), (0, 1))


class Taken(unittest.TestCase):
    def test_by_hand(self):
        self.assertEqual([taken((2, 1), k) for k in range(5)], [(0, 0), (0, 1), (1, 1), (2, 1), (2, 2)])
        self.assertEqual(asked_twice(self, taken, (2, 3), 10), (4, 6))

    def test_m_or_n_zero(self):
        self.assertEqual((taken((5, 0), 9), taken((0, 5), 9)), ((9, 0), (0, 9)))

    def test_pick_by_pick(self):
        for mixture in SMALL:
            for k in range(30):
                told = picks(mixture, k)
                self.assertEqual(taken(mixture, k), (told.count(0), told.count(1)))

    def test_each_so_many_have_what_is_due(self):
        for m, n in SMALL:
            told = picks((m, n), 40)
            for start in range(20):
                for many in range(20):
                    some = told[start:start + many]
                    for sort, share in ((0, m), (1, n)):
                        due = many * share // (m + n)
                        up = -(-many * share // (m + n))
                        self.assertIn(some.count(sort), (due, up))

    def test_each_so_many_far_on(self):
        chance = random.Random(30)
        for _ in range(300):
            m, n, start, many = [chance.randint(0, 10 ** chance.randint(1, 40) - 1) for _ in range(4)]
            ahead, end = taken((m, n + 1), start), taken((m, n + 1), start + many)
            for sort, share in ((0, m), (1, n + 1)):
                due = many * share // (m + n + 1)
                self.assertIn(end[sort] - ahead[sort], (due, -(-many * share // (m + n + 1))))

    def test_forty_figures(self):
        self.assertEqual(taken((BIG, BIG), BIG), (BIG // 2, BIG // 2 + 1))
        self.assertEqual(taken((1, BIG - 1), BIG), (1, BIG - 1))
        self.assertEqual(taken((1, BIG - 1), BIG - 1), (0, BIG - 1))

    def test_somewhat_beyond_the_bounds_nothing_is_raised(self):
        self.assertEqual(sum(taken((0, 0), 7)), 7)
        self.assertIn(sort_of((0, 0), 7), (0, 1))


class AreMixtures(unittest.TestCase):
    def test_mixtures(self):
        for thing in (((0, 1, 0),), ((0, 0, 1),), MIXTURES, ((0, 1, 1), (1, 1, 1)), ((0, BIG, BIG), (BIG, BIG, 0))):
            self.assertTrue(is_truth(self, are_mixtures, thing))

    def test_one_to_eight_parts(self):
        for many in (0, 1, 2, 7, 8, 9, 10):
            thing = tuple((3 * k, 1, k) for k in range(many))
            self.assertEqual(is_truth(self, are_mixtures, thing), 1 <= many <= 8)

    def test_starts_rise_from_zero_unlike(self):
        for starts in ((1,), (5,), (1, 2), (0, 0), (0, 3, 3), (0, 3, 2), (0, 5, 1, 6), (-1,), (-1, 0), (0, -1),
                       (BIG,), (0, BIG, BIG)):
            self.assertFalse(is_truth(self, are_mixtures, tuple((start, 1, 1) for start in starts)))
        for starts in ((0,), (0, 1), (0, 1, 2), (0, BIG - 1, BIG)):
            self.assertTrue(is_truth(self, are_mixtures, tuple((start, 1, 1) for start in starts)))

    def test_not_both_zero(self):
        for part in ((0, 0, 0), (0, -1, 1), (0, 1, -1), (0, -1, 5), (0, 5, -1)):
            self.assertFalse(is_truth(self, are_mixtures, (part,)))
            self.assertFalse(is_truth(self, are_mixtures, ((0, 1, 1), (4,) + part[1:])))

    def test_other_things(self):
        check_nothing_fits(self, are_mixtures, anything() + [
            (), (0, 1, 1), [(0, 1, 1)], ([0, 1, 1],), ((0, 1, 1), [4, 1, 1]), ((False, 1, 1),), ((0, True, 1),),
            ((0, 1, True),), ((0, 1, False),), ((0, 1, 1), (True, 1, 1)), ((0, 1),), ((0, 1, 1, 1),), ((),),
            (((0, 1, 1),),),
            (("0", 1, 1),), ((0, "1", 1),), ((0, 1, None),), ((None, 1, 1),), ((0, (1,), 1),), ((0, 1, [1]),),
            ("011",), (b"011",), ({0: 1, 1: 1, 2: 1},), ({0, 1, 2},), {(0, 1, 1)}, {(0, 1, 1): 1}, (range(3),),
            ((0, 1, nested(58)),), ((nested(58), 1, 1),), ((0, 1, 1), nested(59)), ((0, 1, 1), None),
            ((0, (1, 1)),), ((0, 1, 1), (4, (1, 1))),
        ])


class SortBy(unittest.TestCase):
    def test_by_hand(self):
        # 2 and 1: 1 0 0 1; 0 and 3: 1 1 1; 1 and 1: 1; 5 and 2: 1 0 0 1 0 0 0, then again.
        self.assertEqual([asked_twice(self, sort_by, MIXTURES, k) for k in range(15)],
                         [1, 0, 0, 1, 1, 1, 1, 1, 1, 0, 0, 1, 0, 0, 0])

    def test_one_part(self):
        for mixture in SMALL:
            for k in range(20):
                self.assertEqual(sort_by(((0,) + mixture,), k), sort_of(mixture, k))

    def test_at_a_start_one_ahead_and_one_behind(self):
        mixtures = ((0, 1, 0), (6, 0, 1), (9, 1, 1))
        self.assertEqual([sort_by(mixtures, k) for k in (0, 5, 6, 7, 8, 9, 10, 11)], [0, 0, 1, 1, 1, 1, 0, 1])

    def test_from_its_own_pick_zero_on(self):
        mixtures = ((0, 3, 2), (4, 2, 3), (5, 1, 2), (11, 4, 1))
        for k in range(40):
            start, m, n = [part for part in mixtures if part[0] <= k][-1]
            self.assertEqual(sort_by(mixtures, k), sort_of((m, n), k - start))

    def test_eight_parts(self):
        mixtures = tuple((2 * k, 1 - k % 2, k % 2) for k in range(8))
        self.assertEqual([sort_by(mixtures, k) for k in range(20)], [0, 0, 1, 1] * 4 + [1] * 4)

    def test_forty_figures(self):
        mixtures = ((0, BIG, 0), (BIG - 5, 0, BIG), (BIG, 1, 1))
        self.assertEqual([sort_by(mixtures, k) for k in (0, BIG - 6, BIG - 5, BIG - 1, BIG, BIG + 1)],
                         [0, 0, 1, 1, 1, 0])

    def test_somewhat_beyond_the_bounds_nothing_is_raised(self):
        nine = tuple((k, 1 - k % 2, k % 2) for k in range(9))
        self.assertEqual([sort_by(nine, k) for k in range(10)], [0, 1] * 4 + [0, 0])
        for mixtures in ((), ((3, 1, 1),), ((0, 0, 0),)):
            self.assertIn(sort_by(mixtures, 1), (0, 1))


if __name__ == "__main__":
    unittest.main()
