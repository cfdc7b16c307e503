"""Of point 21 what is read; of point 3 (h) that what is read is shown as it was written."""

import random
import unittest

from evenstrand.errors import NoText
from evenstrand.reading import read_page, read_row, read_wisp
from evenstrand.showing import show_page, show_row, show_wisp
from tests.samples import (
    BIG, EVEN, NARROW, STEEP, anything, asked_twice, check_refused, full_row, nested, some_row, some_wisp)
from tests.test_entries import LAY, LET, SNAP, some_entries

FORTY = "9" * 40
WISP = "0:5x3,2x4"
# What is no number, wherever one stands.
NO_FIGURES = ["", "00", "01", "007", "+1", "-1", "-0", "-", "1_0", "1.", "1e3", "0x1", "a", "1a", "a1", "\u0661",
              "\u00b2", "\uff11", "1\u0661", "\t1", "1\t", "1\n", "\n1", "1" + "0" * 40, "9" * 41, "0" * 41,
              "9" * 5000, "0" * 5000, "1\u00a0", "1,0", "1;", "*", "None", "True"]
NO_TEXTS = [thing for thing in anything() if not isinstance(thing, str)] + [
    b"0:5x3", b"-", b"page 1 1", NARROW, (NARROW,), (1, 1, ()), ("-",), ["-"], ["0:5x3"], {"-"}, {"-": 1}, nested(60),
    ("page 1 1",), 5, True, None]


class ReadingTest(unittest.TestCase):
    def refused(self, reader, text, row):
        """That a text is refused with NoText alone, with the number of this row."""
        refusal = check_refused(self, reader, text, NoText)
        self.assertEqual((refusal.row, refusal.row.__class__), (row, int))


class ReadWisp(ReadingTest):
    def test_wisps(self):
        for text, wisp in ((WISP, NARROW), ("1:4x6", EVEN), ("1:1x1", (1, ((1, 1),))),
                           ("0:8x1,7x1,6x1,5x1,4x1,3x1,2x1,1x1", STEEP), ("0:10x20,9x100", (0, ((10, 20), (9, 100)))),
                           (f"0:{FORTY}x{FORTY},1x{FORTY}", (0, ((BIG, BIG), (1, BIG)))),
                           ("0:1" + "0" * 39 + "x1", (0, ((10 ** 39, 1),)))):
            self.assertEqual(asked_twice(self, read_wisp, text), wisp)
            self.assertEqual(show_wisp(wisp), text)

    def test_one_to_eight_steps(self):
        for many in range(11):
            text = "1:" + ",".join(f"{20 - k}x{k + 1}" for k in range(many))
            if 1 <= many <= 8:
                self.assertEqual(read_wisp(text), (1, tuple((20 - k, k + 1) for k in range(many))))
            else:
                self.refused(read_wisp, text, 0)

    def test_numbers(self):
        for number in NO_FIGURES:
            for text in (f"{number}:5x3,2x4", f"0:{number}x3,2x4", f"0:5x{number},2x4", f"0:5x3,{number}x4",
                         f"0:5x3,2x{number}"):
                self.refused(read_wisp, text, 0)

    def test_sorts_and_steps(self):
        for text in ("2:5x3", "9:5x3", f"{FORTY}:5x3", "0:0x3", "0:5x0", "0:5x3,5x4", "0:2x4,5x3", "0:5x3,0x4",
                     "0:5x3,2x0", "0:5x3,2x4,2x1"):
            self.refused(read_wisp, text, 0)

    def test_other_texts(self):
        for text in ("", " ", "0", "0:", ":", ":5x3", "5x3", "0:5", "0:x", "0:5x", "0:x3", "0:5x3,", "0:,5x3",
                     "0:5x3,,2x4", "0:5x3;2x4", "0:5x3 2x4", " 0:5x3", "0:5x3 ", "0 :5x3", "0: 5x3", "0:5 x3",
                     "0:5x 3", "0:5x3, 2x4", "0:5X3", "0;5x3", "0::5x3", "0:5xx3", "0:5x3x1", "0:5x3:", "0:0:5x3",
                     "0:5x3\n", "\n0:5x3", "-", "lay",
                     "0:5x3*2", "x", ",", "0:5*3", "0:5x3,2x4 1:4x6", "0" * 6000):
            self.refused(read_wisp, text, 0)

    def test_other_things(self):
        for thing in NO_TEXTS:
            self.refused(read_wisp, thing, 0)

    def test_read_and_shown_as_written(self):
        chance = random.Random(130)
        for _ in range(200):
            text = show_wisp(some_wisp(chance))
            self.assertEqual(show_wisp(read_wisp(text)), text)


class ReadRow(ReadingTest):
    def test_rows(self):
        for text, row in (("-", ()), (WISP, (NARROW,)), (f"{WISP} 1:4x6 {WISP}", (NARROW, EVEN, NARROW)),
                          (f"1:{FORTY}x{FORTY} {WISP}", ((1, ((BIG, BIG),)), NARROW))):
            self.assertEqual(asked_twice(self, read_row, text), row)
            self.assertEqual(show_row(row), text)

    def test_sixty_and_sixty_one_wisps(self):
        self.assertEqual(read_row(" ".join([WISP] * 60)), (NARROW,) * 60)
        for many in (61, 62, 100):
            self.refused(read_row, " ".join([WISP] * many), 0)
        self.assertEqual(read_row(show_row(full_row())), full_row())

    def test_blanks(self):
        for text in ("", " ", f" {WISP}", f"{WISP} ", f"{WISP}  1:4x6", f"{WISP}  ", "- ", " -", f"- {WISP}",
                     f"{WISP} -", "- -", "--", f"{WISP}\t1:4x6", f"{WISP}\n1:4x6", f"{WISP}; 1:4x6", f"{WISP},1:4x6"):
            self.refused(read_row, text, 0)

    def test_wisps_at_fault(self):
        for wrong in ("0:5x3,5x4", "2:5x3", "0:5", "x", "0:05x3", "0:" + "9" * 41 + "x1"):
            for text in (wrong, f"{wrong} {WISP}", f"{WISP} {wrong}", f"{WISP} {wrong} {WISP}"):
                self.refused(read_row, text, 0)

    def test_other_things(self):
        for thing in NO_TEXTS:
            self.refused(read_row, thing, 0)

    def test_read_and_shown_as_written(self):
        chance = random.Random(131)
        for _ in range(100):
            text = show_row(some_row(chance, 9))
            self.assertEqual(show_row(read_row(text)), text)


class ReadPage(ReadingTest):
    def test_pages(self):
        for text, page in (
                ("page 0 0", (0, 0, ())), ("page 12 3; snap 4 1", (12, 3, (SNAP,))),
                ("page 1 2; lay a 0:5x3,2x4 2; let a 5; snap 4 1", (1, 2, (LAY, LET, SNAP))),
                (f"page {FORTY} {FORTY}; let abcdefgh {FORTY}", (BIG, BIG, (("let", "abcdefgh", BIG),))),
                ("page 1 2; lay lay 1:4x6 0; let page 1", (1, 2, (("lay", "lay", EVEN, 0), ("let", "page", 1))))):
            self.assertEqual(asked_twice(self, read_page, text), page)
            self.assertEqual(show_page(page), text)

    def test_twenty_entries_and_more(self):
        rows = ["page 1 1"] + ["snap 4 1"] * 22
        self.assertEqual(read_page("; ".join(rows[:21])), (1, 1, (SNAP,) * 20))
        self.refused(read_page, "; ".join(rows[:22]), 21)
        self.refused(read_page, "; ".join(rows), 21)

    def test_a_row_at_fault_ahead_of_the_21st_entry_and_behind_it(self):
        rows = ["page 1 1"] + ["snap 4 1"] * 22
        for number in range(23):
            for wrong in ("snap 4", "", "snap  4 1"):
                changed = rows[:number] + [wrong] + rows[number + 1:]
                self.refused(read_page, "; ".join(changed), min(number, 21))

    def test_the_first_row_at_fault(self):
        self.refused(read_page, "page 1; snap 4; let", 0)
        self.refused(read_page, "page 1 1; snap 4; let", 1)
        self.refused(read_page, "page 1 1; snap 4 1; let; snap", 2)
        self.refused(read_page, "page 1 1; snap 4 1; let a 5; snap", 3)

    def test_row_0(self):
        for row in ("", " ", "page", "page ", "page 1", "page 1 ", "page  1", "page 1 1 1", "page 1 1 ", " page 1 1",
                    "page  1 1", "page 1  1", "Page 1 1", "pages 1 1", "pag 1 1", "1 1", "snap 1 1", "let a 5",
                    "page a 1", "page\n1 1", "page 1 1\n", "page 1 1;"):
            self.refused(read_page, row, 0)
            self.refused(read_page, f"{row}; snap 4 1", 0)
            self.refused(read_page, f"{row}; snap 4", 0)
        for number in NO_FIGURES:
            if "; " not in number:
                self.refused(read_page, f"page {number} 1", 0)
                self.refused(read_page, f"page 1 {number}", 0)

    def test_rows_of_entries(self):
        for row in ("", " ", "lay", "lay a", f"lay a {WISP}", f"lay a {WISP} 2 1", f"lay a 2 {WISP}", f"lay {WISP} 2",
                    f"lay  a {WISP} 2", f"lay a  {WISP} 2", f"lay a {WISP}  2", f" lay a {WISP} 2", f"lay a {WISP} 2 ",
                    f"Lay a {WISP} 2", f"lays a {WISP} 2", f"la a {WISP} 2", "lay a 0:5x3,5x4 2", "lay a - 2",
                    "lay a  2", "let", "let a", "let a ", "let a 5 5", "let 5 a", "let  a 5", "let a  5", " let a 5",
                    "let a 5 ", "LET a 5", "lets a 5", "let a b", f"let a {WISP} 5", "snap", "snap 4", "snap 4 ",
                    "snap 4 1 1", "snap a 1", "snap 4 a", "snap  4 1", "snap 4  1", " snap 4 1", "snap 4 1 ",
                    "Snap 4 1", "snaps 4 1", "page 1 1", "put 4 1", "-", f"lay a {WISP}\n2", "let a\n5", "snap 4 1\n",
                    "snap 4 1;", ";", "let a 5;"):
            self.refused(read_page, f"page 1 1; {row}", 1)
            self.refused(read_page, f"page 1 1; let a 5; {row}", 2)
            self.refused(read_page, f"page 1 1; let a 5; {row}; snap 4", 2)

    def test_numbers(self):
        for number in NO_FIGURES:
            for row in (f"lay a {WISP} {number}", f"let a {number}", f"snap {number} 1", f"snap 4 {number}",
                        f"lay a 0:{number}x3 2", f"lay a {number}:5x3 2"):
                self.refused(read_page, f"page 1 1; {row}; snap 4 1", 1)

    def test_names(self):
        for many in range(11):
            name = "abcdefghijk"[:many]
            for row, entry in ((f"let {name} 5", ("let", name, 5)), (f"lay {name} {WISP} 2", ("lay", name, NARROW, 2))):
                if 1 <= many <= 8:
                    self.assertEqual(read_page(f"page 1 1; {row}"), (1, 1, (entry,)))
                else:
                    self.refused(read_page, f"page 1 1; {row}", 1)
        for name in ("A", "aB", "a1", "1", "a-", "-", "a_b", "\u00e4", "a,b", "a:"):
            self.refused(read_page, f"page 1 1; snap 4 1; let {name} 5", 2)
            self.refused(read_page, f"page 1 1; snap 4 1; lay {name} {WISP} 5", 2)

    def test_a_text_that_ends_with_the_sign_of_a_next_row(self):
        self.refused(read_page, "page 1 1; ", 1)
        self.refused(read_page, "page 1 1; snap 4 1; ", 2)
        self.refused(read_page, "; ", 0)
        self.refused(read_page, "; ".join(["page 1 1"] + ["snap 4 1"] * 20 + [""]), 21)

    def test_rows_parted_otherwise(self):
        for sign, row in ((";", 0), (" ; ", 0), (" ;", 0), (", ", 0), ("\n", 0), (";\n", 0), (":", 0), (" ", 0),
                          (";; ", 0),
                          (";  ", 1), ("; ; ", 1)):
            self.refused(read_page, sign.join(["page 1 1", "snap 4 1", "let a 5"]), row)
        self.refused(read_page, "page 1 1; snap 4 1;let a 5", 1)
        self.refused(read_page, "page 1 1; snap 4 1;  let a 5", 2)

    def test_no_page(self):
        for text in ("", "-", WISP, "told 5", "0" * 6000, "; " * 3000):
            self.refused(read_page, text, 0)

    def test_other_things(self):
        for thing in NO_TEXTS:
            self.refused(read_page, thing, 0)

    def test_read_and_shown_as_written(self):
        chance = random.Random(132)
        for _ in range(200):
            text = show_page((chance.randint(0, 99), chance.randint(0, 99), some_entries(chance, 20)))
            self.assertEqual(show_page(read_page(text)), text)

    def test_each_sign_left_out_or_written_twice(self):
        # Whatever is read of a text that was changed is written just so.
        text = "page 10 2; lay ab 0:5x3,2x4 12; let ab 50; snap 4 1"
        for at in range(len(text)):
            for changed in (text[:at] + text[at + 1:], text[:at] + text[at] + text[at:], text[:at] + " " + text[at:]):
                try:
                    page = read_page(changed)
                except NoText as refusal:
                    self.assertIn(refusal.row, range(5))
                else:
                    self.assertEqual(show_page(page), changed)


if __name__ == "__main__":
    unittest.main()
