"""Point 8, of it hanks."""

import unittest

from evenstrand.hanking import hanks
from evenstrand.strands import end_of, weight_between
from tests.samples import BIG, EVEN, NARROW, asked_twice, full_strand, model_thick, some_strands


def model_hanks(strand, weight, most):
    """The hanks' ends, by going place by place."""
    ends = []
    gathered = 0
    for p in range(end_of(strand)):
        gathered += model_thick(strand, p)
        if gathered >= weight:
            ends.append(p + 1)
            gathered = 0
    return tuple(ends[:most])


class Hanks(unittest.TestCase):
    def test_by_hand(self):
        # 5 5 5 2 2 2 2
        strand = ((NARROW, 0, None),)
        told = [asked_twice(self, hanks, strand, weight, 60) for weight in (1, 2, 5, 6, 10, 15, 16, 17, 23, 24)]
        self.assertEqual(told, [
            (1, 2, 3, 4, 5, 6, 7), (1, 2, 3, 4, 5, 6, 7), (1, 2, 3, 6), (2, 4, 7), (2, 6), (3,), (4,), (4,), (7,), ()])

    def test_a_weight_just_reached_and_one_less(self):
        strand = ((EVEN, 0, None),)
        self.assertEqual([hanks(strand, weight, 60) for weight in (7, 8, 9, 24, 25)],
                         [(2, 4, 6), (2, 4, 6), (3, 6), (6,), ()])

    def test_most(self):
        strand = tuple((EVEN, 6 * k, None) for k in range(60))
        self.assertEqual([hanks(strand, 4, most) for most in (0, 1, 2)], [(), (1,), (1, 2)])
        self.assertEqual(hanks(strand, 4, 60), tuple(range(1, 61)))
        self.assertEqual(hanks(strand, 24, 60), tuple(range(6, 361, 6)))
        self.assertEqual(hanks(strand, 24, 59), tuple(range(6, 355, 6)))

    def test_a_hank_ends_ahead_of_where_none_runs(self):
        strand = ((EVEN, 2, 4), (EVEN, 9, 11))
        self.assertEqual([hanks(strand, weight, 60) for weight in (4, 8, 9, 12, 16, 17)],
                         [(3, 4, 10, 11), (4, 11), (10,), (10,), (11,), ()])

    def test_without_wisps(self):
        self.assertEqual(hanks((), 1, 60), ())

    def test_place_by_place(self):
        for strand in some_strands() + [full_strand()]:
            for weight in (1, 2, 5, 9, 14, 30):
                for most in (0, 1, 3, 60):
                    told = asked_twice(self, hanks, strand, weight, most)
                    self.assertEqual(told, model_hanks(strand, weight, most))

    def test_forty_figures(self):
        strand = (((0, ((BIG, BIG), (1, BIG))), BIG, None),)
        self.assertEqual(hanks(strand, BIG, 3), (BIG + 1, BIG + 2, BIG + 3))
        self.assertEqual(hanks(strand, BIG - 1, 2), (BIG + 1, BIG + 2))
        self.assertEqual(hanks(strand, BIG + 1, 2), (BIG + 2, BIG + 4))
        self.assertEqual(hanks(strand, BIG * BIG, 60), (2 * BIG,))
        self.assertEqual(hanks(strand, BIG * BIG + 1, 60), (2 * BIG + 1,))
        self.assertEqual(hanks(strand, BIG * BIG + BIG, 60), (3 * BIG,))
        self.assertEqual(hanks(strand, BIG * BIG + BIG + 1, 60), ())
        self.check_ends(strand, BIG * (10 ** 39) + 12345, 60)

    def check_ends(self, strand, weight, most):
        start = 0
        told = hanks(strand, weight, most)
        self.assertTrue(told)
        for end in told:
            self.assertGreaterEqual(weight_between(strand, start, end), weight)
            self.assertLess(weight_between(strand, start, end - 1), weight)
            start = end
        self.assertLess(weight_between(strand, start, end_of(strand)), weight)

    def test_somewhat_beyond_the_bounds_nothing_is_raised(self):
        strand = ((EVEN, 2, 4), (EVEN, 9, 11))
        for weight in (0, -1):
            self.assertLessEqual(len(hanks(strand, weight, 60)), 60)
        self.assertEqual(hanks(strand, 4, -1), ())
        self.assertEqual(hanks(((NARROW, 0, None),), 1, 61), (1, 2, 3, 4, 5, 6, 7))


if __name__ == "__main__":
    unittest.main()
