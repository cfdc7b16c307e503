"""Of point 12 two rows blended."""

import random
import unittest

from evenstrand.blending import blended
from evenstrand.mixing import sort_by
from evenstrand.rows import is_row
from tests.samples import BIG, asked_twice


def zeros(many):
    return tuple((0, ((k + 1, 1),)) for k in range(many))


def ones(many):
    return tuple((1, ((k + 1, 2),)) for k in range(many))


def sorts_in(row):
    return [wisp[0] for wisp in row]


def model_blended(first, second, mixtures):
    """The blend, by taking from the ends of two lists."""
    rows = [list(first)[::-1], list(second)[::-1]]
    blend = []
    while len(blend) < 60 and rows[sort_by(mixtures, len(blend))]:
        blend.append(rows[sort_by(mixtures, len(blend))].pop())
    return tuple(blend)


class Blended(unittest.TestCase):
    def test_by_hand(self):
        first, second = zeros(4), ones(4)
        # 1 0 0 1 0 0 1 0: the fifth of sort 0 is missing.
        self.assertEqual(asked_twice(self, blended, first, second, ((0, 2, 1),)), (
            second[0], first[0], first[1], second[1], first[2], first[3], second[2]))
        self.assertEqual(blended(first, second, ((0, 1, 0), (2, 0, 1), (3, 1, 0))), (
            first[0], first[1], second[0], first[2], first[3]))

    def test_none_left_at_the_first_pick(self):
        self.assertEqual(blended((), ones(5), ((0, 1, 0),)), ())
        self.assertEqual(blended(zeros(5), (), ((0, 1, 1),)), ())
        self.assertEqual(blended((), (), ((0, 1, 1),)), ())

    def test_the_other_row_does_not_help_out(self):
        self.assertEqual(blended((), ones(5), ((0, 1, 1),)), ones(1))
        self.assertEqual(blended(zeros(1), ones(50), ((0, 1, 1),)), (ones(1)[0], zeros(1)[0], ones(2)[1]))

    def test_m_or_n_zero(self):
        self.assertEqual(blended(zeros(7), ones(7), ((0, 3, 0),)), zeros(7))
        self.assertEqual(blended(zeros(7), ones(7), ((0, 0, 3),)), ones(7))
        self.assertEqual(blended(zeros(7), (), ((0, 3, 0),)), zeros(7))

    def test_none_left_just_at_the_sixtieth_pick(self):
        # Pick 59 is of sort 0, the thirtieth one; pick 58 of sort 1, also the thirtieth.
        self.assertEqual(len(blended(zeros(29), ones(30), ((0, 1, 1),))), 59)
        self.assertEqual(len(blended(zeros(30), ones(30), ((0, 1, 1),))), 60)
        self.assertEqual(len(blended(zeros(30), ones(29), ((0, 1, 1),))), 58)
        self.assertEqual([len(blended(zeros(many), (), ((0, 1, 0),))) for many in (58, 59, 60)], [58, 59, 60])

    def test_more_than_sixty_in_both_together(self):
        told = blended(zeros(60), ones(60), ((0, 1, 1),))
        self.assertEqual(sorts_in(told), [1, 0] * 30)
        self.assertTrue(is_row(told))
        self.assertEqual(told[58:], (ones(30)[29], zeros(30)[29]))
        self.assertEqual(blended(zeros(60), ones(60), ((0, 1, 0),)), zeros(60))
        self.assertEqual(len(blended(zeros(40), ones(40), ((0, 2, 1),))), 60)

    def test_pick_by_pick(self):
        chance = random.Random(31)
        for _ in range(200):
            starts = [0] + sorted(chance.sample(range(1, 30), chance.randint(0, 7)))
            mixtures = tuple((start, chance.randint(0, 4), chance.randint(1, 4)) for start in starts)
            first, second = zeros(chance.randint(0, 60)), ones(chance.randint(0, 60))
            told = asked_twice(self, blended, first, second, mixtures)
            self.assertEqual(told, model_blended(first, second, mixtures))
            self.assertEqual(sorts_in(told), [sort_by(mixtures, k) for k in range(len(told))])

    def test_forty_figures(self):
        first, second = ((0, ((BIG, BIG),)),) * 3, ((1, ((BIG, 1),)),) * 3
        self.assertEqual(blended(first, second, ((0, BIG, BIG), (BIG, 1, 0))), (second[0], first[0]) * 3)
        self.assertEqual(blended(first, second, ((0, BIG, 1),)), (second[0],) + first)

    def test_somewhat_beyond_the_bounds_nothing_is_raised(self):
        self.assertEqual(blended(zeros(70), ones(70), ((0, 1, 0),)), zeros(60))
        for mixtures in ((), ((5, 1, 1),), ((0, 0, 0),)):
            self.assertTrue(is_row(blended(zeros(3), ones(3), mixtures)))


if __name__ == "__main__":
    unittest.main()
