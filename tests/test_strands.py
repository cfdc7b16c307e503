"""Point 5: strands."""

import unittest

from evenstrand.strands import by_sorts, end_of, is_strand, running, thick, weight_between
from tests.samples import (
    BIG, EVEN, NARROW, anything, asked_twice, check_nothing_fits, full_strand, is_truth, model_of, model_thick,
    not_wisps, some_strands)

HUGE = ((0, ((BIG, BIG), (1, BIG))), BIG, None)
HUGE_LET = ((1, ((BIG, BIG),)), 1, BIG)


class IsStrand(unittest.TestCase):
    def test_strands(self):
        for strand in some_strands() + [(), (HUGE, HUGE_LET), full_strand()]:
            self.assertTrue(is_truth(self, is_strand, strand))

    def test_at_most_sixty(self):
        for many in (0, 1, 59, 60, 61, 62):
            strand = ((NARROW, 0, None),) * many
            self.assertEqual(is_truth(self, is_strand, strand), many <= 60)

    def test_let_stands_above_at(self):
        for let, fits in ((None, True), (6, True), (BIG, True), (5, False), (4, False), (0, False), (-1, False)):
            self.assertEqual(is_truth(self, is_strand, ((NARROW, 5, let),)), fits)
        self.assertFalse(is_strand(((NARROW, BIG, BIG),)))
        self.assertTrue(is_strand(((NARROW, BIG - 1, BIG),)))

    def test_at_is_a_place(self):
        for at, fits in ((0, True), (BIG, True), (-1, False), (True, False), (False, False), (None, False)):
            self.assertEqual(is_truth(self, is_strand, ((NARROW, at, None),)), fits)

    def test_other_things(self):
        check_nothing_fits(self, is_strand, [thing for thing in anything() if thing != ()])

    def test_other_things_as_wisps(self):
        things = [((wisp, 0, None),) for wisp in not_wisps()]
        check_nothing_fits(self, is_strand, things)

    def test_other_laid_wisps(self):
        wrong = [
            (), (NARROW,), (NARROW, 0), (NARROW, 0, None, None), [NARROW, 0, None], (0, NARROW, None),
            (NARROW, "0", None), (NARROW, 0, "1"), (NARROW, 0, True), (NARROW, 0, False), (NARROW, 0, ()),
            (NARROW, (0,), None), (NARROW, [], None), (NARROW, 0, (1,)), (NARROW, None, 3), (NARROW, True, 3),
        ]
        check_nothing_fits(self, is_strand, [(laid,) for laid in wrong])
        check_nothing_fits(self, is_strand, [((NARROW, 0, None), laid) for laid in wrong])
        check_nothing_fits(self, is_strand, [[(NARROW, 0, None)], {(NARROW, 0, None)}, (NARROW, 0, None)])


class Places(unittest.TestCase):
    def test_by_hand(self):
        strand = ((NARROW, 2, None), (EVEN, 4, 6), (NARROW, 20, 21))
        self.assertEqual([running(strand, p) for p in (1, 2, 3, 4, 5, 6, 8, 9, 19, 20, 21)],
                         [(), (0,), (0,), (0, 1), (0, 1), (0,), (0,), (), (), (2,), ()])
        self.assertEqual([thick(strand, p) for p in (1, 2, 4, 5, 6, 8, 9, 20, 21)], [0, 5, 9, 6, 2, 2, 0, 5, 0])
        self.assertEqual([by_sorts(strand, p) for p in (1, 4, 5, 20)], [(0, 0), (5, 4), (2, 4), (5, 0)])
        self.assertEqual(end_of(strand), 21)
        self.assertEqual(weight_between(strand, 4, 9), 5 + 8 + 8)

    def test_place_by_place(self):
        for strand in some_strands():
            for p in range(32):
                self.check_place(strand, p)

    def check_place(self, strand, p):
        each = [model_of(laid, p) for laid in strand]
        self.assertEqual(asked_twice(self, running, strand, p), tuple(k for k, t in enumerate(each) if t))
        self.assertEqual(asked_twice(self, thick, strand, p), sum(each))
        by_sort = tuple(sum(t for laid, t in zip(strand, each) if laid[0][0] == sort) for sort in (0, 1))
        self.assertEqual(asked_twice(self, by_sorts, strand, p), by_sort)

    def test_ends(self):
        for strand in some_strands():
            last = max([p for p in range(40) if model_thick(strand, p)], default=-1)
            self.assertEqual(asked_twice(self, end_of, strand), last + 1)

    def test_let_behind_the_length_changes_nothing(self):
        self.assertEqual([end_of(((NARROW, 3, let),)) for let in (None, 11, 10, 9)], [10, 10, 10, 9])

    def test_weights(self):
        for strand in some_strands(40):
            for a in range(0, 26, 3):
                for b in range(a, 32):
                    weight = sum(model_thick(strand, p) for p in range(a, b))
                    self.assertEqual(asked_twice(self, weight_between, strand, a, b), weight)

    def test_no_places_weigh_nothing(self):
        strand = ((NARROW, 0, None), (EVEN, 2, None))
        for a in range(10):
            self.assertEqual(weight_between(strand, a, a), 0)

    def test_without_wisps(self):
        self.assertEqual((running((), 0), thick((), 5), by_sorts((), 5)), ((), 0, (0, 0)))
        self.assertEqual((end_of(()), weight_between((), 0, BIG)), (0, 0))

    def test_forty_figures(self):
        strand = (HUGE, HUGE_LET)
        told = [(p, running(strand, p), by_sorts(strand, p)) for p in (0, 1, BIG - 1, BIG, 2 * BIG - 1, 2 * BIG)]
        self.assertEqual(told, [
            (0, (), (0, 0)), (1, (1,), (0, BIG)), (BIG - 1, (1,), (0, BIG)), (BIG, (0,), (BIG, 0)),
            (2 * BIG - 1, (0,), (BIG, 0)), (2 * BIG, (0,), (1, 0))])
        self.assertEqual((running(strand, 3 * BIG - 1), running(strand, 3 * BIG)), ((0,), ()))
        self.assertEqual(thick((HUGE, HUGE), BIG), 2 * BIG)
        self.assertEqual(end_of(strand), 3 * BIG)
        self.assertEqual(weight_between(strand, 0, BIG), BIG * (BIG - 1))
        self.assertEqual(weight_between(strand, BIG - 1, BIG + 1), 2 * BIG)
        self.assertEqual(weight_between(strand, 0, 9 * BIG), BIG * (BIG - 1) + BIG * BIG + BIG)

    def test_somewhat_beyond_the_bounds_nothing_is_raised(self):
        strand = ((NARROW, 3, 3), (NARROW, 3, 1), (EVEN, 0, None)) * 21
        self.assertEqual((running(strand, 3), end_of(strand)), (tuple(range(2, 63, 3)), 6))
        self.assertEqual((weight_between(strand, 5, 3), thick(strand, -1)), (0, 0))
        self.assertEqual(by_sorts((((2, ((1, 1),)), 0, None),), 1), (0, 0))


if __name__ == "__main__":
    unittest.main()
