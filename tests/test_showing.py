"""Of point 21 what is shown; of point 3 (h) that what is shown is read again as it was."""

import random
import unittest

from evenstrand.reading import read_page, read_row, read_wisp
from evenstrand.showing import show_page, show_row, show_wisp
from tests.samples import BIG, EVEN, NARROW, STEEP, asked_twice, full_row, some_row, some_wisp
from tests.test_entries import LAY, LET, SNAP, some_entries

FORTY = "9" * 40


class ShowWisp(unittest.TestCase):
    def test_wisps(self):
        for wisp, text in ((NARROW, "0:5x3,2x4"), (EVEN, "1:4x6"), ((1, ((1, 1),)), "1:1x1"),
                           (STEEP, "0:8x1,7x1,6x1,5x1,4x1,3x1,2x1,1x1"), ((0, ((10, 20), (9, 100))), "0:10x20,9x100")):
            self.assertEqual(asked_twice(self, show_wisp, wisp), text)
            self.assertEqual(read_wisp(text), wisp)

    def test_forty_figures(self):
        self.assertEqual(show_wisp((0, ((BIG, BIG), (1, BIG)))), f"0:{FORTY}x{FORTY},1x{FORTY}")

    def test_shown_and_read_again(self):
        chance = random.Random(120)
        for _ in range(200):
            wisp = some_wisp(chance)
            self.assertEqual(read_wisp(show_wisp(wisp)), wisp)


class ShowRow(unittest.TestCase):
    def test_rows(self):
        for row, text in (((), "-"), ((NARROW,), "0:5x3,2x4"), ((NARROW, EVEN, NARROW), "0:5x3,2x4 1:4x6 0:5x3,2x4")):
            self.assertEqual(asked_twice(self, show_row, row), text)
            self.assertEqual(read_row(text), row)

    def test_sixty_wisps(self):
        text = show_row(full_row())
        self.assertEqual(len(text.split(" ")), 60)
        self.assertEqual(read_row(text), full_row())

    def test_shown_and_read_again(self):
        chance = random.Random(121)
        for _ in range(100):
            row = some_row(chance, 9)
            self.assertEqual(read_row(show_row(row)), row)


class ShowPage(unittest.TestCase):
    def test_pages(self):
        for page, text in (((0, 0, ()), "page 0 0"), ((12, 3, (SNAP,)), "page 12 3; snap 4 1"),
                           ((1, 2, (LAY, LET, SNAP)), "page 1 2; lay a 0:5x3,2x4 2; let a 5; snap 4 1"),
                           ((1, 2, (("let", "abcdefgh", 0), ("snap", 0, 0))), "page 1 2; let abcdefgh 0; snap 0 0")):
            self.assertEqual(asked_twice(self, show_page, page), text)
            self.assertEqual(read_page(text), page)

    def test_twenty_entries(self):
        page = (1, 2, (LAY, LET, SNAP, SNAP) * 5)
        self.assertEqual(len(show_page(page).split("; ")), 21)
        self.assertEqual(read_page(show_page(page)), page)

    def test_forty_figures(self):
        page = (BIG, BIG, (("lay", "a", (1, ((BIG, BIG),)), BIG), ("let", "a", BIG), ("snap", BIG, BIG)))
        text = f"page {FORTY} {FORTY}; lay a 1:{FORTY}x{FORTY} {FORTY}; let a {FORTY}; snap {FORTY} {FORTY}"
        self.assertEqual(show_page(page), text)
        self.assertEqual(read_page(text), page)

    def test_shown_and_read_again(self):
        chance = random.Random(122)
        for _ in range(200):
            page = (chance.randint(0, 99), chance.randint(0, 99), some_entries(chance, 20))
            self.assertEqual(read_page(show_page(page)), page)


if __name__ == "__main__":
    unittest.main()
