"""Point 2: what a whole number is, and that a list is no tuple."""

import unittest

from evenstrand.kinds import do_rise, is_tuple, is_whole
from tests.samples import BIG


class Kinds(unittest.TestCase):
    def test_whole_numbers(self):
        for thing in (0, 1, BIG):
            self.assertIs(is_whole(thing, 0), True)
        self.assertIs(is_whole(0, 1), False)
        self.assertIs(is_whole(-1, 0), False)
        self.assertIs(is_whole(BIG - 1, BIG), False)

    def test_truths_and_others_are_no_whole_numbers(self):
        for thing in (True, False, None, "1", b"1", (1,), [1], {1: 1}, object()):
            self.assertIs(is_whole(thing, 0), False)

    def test_tuples(self):
        self.assertIs(is_tuple((), 0, 0), True)
        self.assertIs(is_tuple((1, 2), 2, 2), True)
        self.assertIs(is_tuple((1, 2), 3, 4), False)
        self.assertIs(is_tuple((1, 2), 0, 1), False)
        for thing in ([1, 2], "ab", {1: 2, 3: 4}, None, 2):
            self.assertIs(is_tuple(thing, 0, 9), False)

    def test_numbers_that_rise(self):
        for numbers in ([], [7], [0, 1], [0, 5, BIG]):
            self.assertIs(do_rise(numbers), True)
        for numbers in ([0, 0], [1, 0], [0, 2, 2], [0, 2, 1], [5, 0, 6], [BIG, BIG]):
            self.assertIs(do_rise(numbers), False)


if __name__ == "__main__":
    unittest.main()
