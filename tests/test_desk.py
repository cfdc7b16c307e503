"""Point 22: the desk; of point 3 (h) that it answers as all the others do."""

import random
import unittest

from evenstrand.book import Book
from evenstrand.broken import cost
from evenstrand.desk import Desk
from evenstrand.drawing import drawn, drawn_to, lasting
from evenstrand.entries import breaks_by
from evenstrand.errors import NoLine, NoText, Twice
from evenstrand.fewest import fewest
from evenstrand.longest import longest
from evenstrand.mixing import sort_of, taken
from evenstrand.reading import read_page
from evenstrand.showing import show_page, show_row, show_wisp
from tests.samples import BIG, NARROW, STEEP, check_refused, full_row, some_row
from tests.test_baskets import DOT, LONG, SHORT, some_basket, some_frame
from tests.test_book import some_page
from tests.test_reading import NO_FIGURES, NO_TEXTS

FORTY = "9" * 40
PAGE = "page 1 1; lay ann 0:5x3,2x4 0; lay bea 1:4x6 2; let ann 4; snap 6 1"
ROW = "0:5x3,2x4 0:5x3,2x4 1:4x6"
BASKET = "0:3x2,1x1*2 1:2x2*-"
# Lines that change nothing, with the numbers behind their words.
ASKING = ["told 3", "stretches", "end", "length 7", "draw 4", "to 4 9", "cost 4 9", "mix 2 1 7", "fewest 3 5 2 5",
          "longest 3 5 2"]


def text_of(kind):
    wisp, many = kind
    return show_wisp(wisp) + "*" + ("-" if many is None else str(many))


def text_of_basket(basket):
    return "basket " + " ".join(text_of(kind) for kind in basket)


def filled():
    """A desk with a book, a row and a basket."""
    desk = Desk()
    for line in (PAGE, f"row {ROW}", f"basket {BASKET}"):
        desk.say(line)
    return desk


def all_answers(desk):
    """What a desk answers to lines that change nothing, refusals too."""
    answers = []
    for line in ASKING + [f"told {moment}" for moment in range(10)] + [f"length {moment}" for moment in range(10)]:
        try:
            answers.append(desk.say(line))
        except NoLine:
            answers.append(NoLine)
    return answers


class DeskTest(unittest.TestCase):
    def check_answers(self, desk, *pairs):
        for line, due in pairs:
            with self.subTest(line=line):
                answer = desk.say(line)
                self.assertIsInstance(answer, str)
                self.assertEqual(answer, due)

    def refused(self, line, kind=NoLine, desk=None):
        """That a line is refused, with its own class alone, and nothing is otherwise behind it."""
        desk = filled() if desk is None else desk
        ahead = all_answers(desk)
        check_refused(self, desk.say, line, kind)
        self.assertEqual(all_answers(desk), ahead)


class Pages(DeskTest):
    def test_a_page_is_put(self):
        self.check_answers(
            Desk(), (PAGE, "0-6"), ("page 1 2; lay ann 0:5x3,2x4 1", "0-1 2-8"), ("page 2 1; snap 20 1", "19-20"),
            ("page 3 0; lay bea 1:4x6 30; lay cat 1:4x6 40", "30-36 40-46"), ("page 1 3", "1-8"))

    def test_a_page_that_changes_nothing(self):
        self.check_answers(Desk(), ("page 1 1", "-"), (PAGE.replace("page 1 1", "page 2 1"), "0-6"), ("page 0 5", "-"),
                           (PAGE.replace("page 1 1", "page 2 1"), "-"), ("page 2 0; snap 50 50", "-"))

    def test_twice(self):
        desk = filled()
        for line in ("page 1 1", PAGE + "; snap 9 1", "page 1 1; lay ann 0:5x3,2x4 0"):
            self.refused(line, Twice, desk)
        self.check_answers(desk, (PAGE, "-"), ("page 1 2", "0-6"))
        self.refused("page 1 1; snap 5 5", Twice, desk)

    def test_pages_at_fault(self):
        for line in ("page", "page ", "page 1", "page 1 1 ", " page 1 1", "page  1 1", "page 1 1;", "page 1 1; ",
                     "page 1 1; snap 4", "page 9 1; snap 4 1; let A 5", "page 9 1; snap 4 1;let a 5", "Page 9 1",
                     "page 9 1; told 3", "page 9 1; lay a 0:5x3,5x3 0", "page 1 1 1", "page 01 1", "page 9 9\n",
                     "page 9 1" + "; snap 4 1" * 21, "page 9 1" + "; snap 4 1" * 22, "pages 9 1", "page9 1",
                     # Were it read, it would be put twice.
                     "page 1 1; lay ann 0:5x3,2x4"):
            self.refused(line)
        self.check_answers(filled(), ("page 9 1" + "; snap 4 1" * 20, "3-6"))

    def test_a_refused_page_behind_a_good_one_which_stays(self):
        desk = filled()
        self.refused("page 1 2; lay ann", NoLine, desk)
        self.check_answers(desk, ("told 3", "ann,bea 2 4 left"), ("page 1 2; lay ann 0:5x3,2x4 0", "2-7"))


class Told(DeskTest):
    def test_told(self):
        self.check_answers(
            filled(), ("told 0", "ann 5 0 left"), ("told 2", "ann,bea 5 4 left"), ("told 3", "ann,bea 2 4 left"),
            ("told 4", "bea 0 4 left"), ("told 5", "bea 0 4 cut"), ("told 6", "- 0 0 left"), (f"told {FORTY}",
            "- 0 0 left"))

    def test_stretches_end_and_length(self):
        self.check_answers(
            filled(), ("stretches", "5"), ("end", "6"), ("length 0", "0"), ("length 5", "5"), ("length 6", "5"),
            ("length 7", "6"), (f"length {FORTY}", str(BIG - 1)))

    def test_without_pages(self):
        self.check_answers(Desk(), ("told 0", "- 0 0 left"), ("stretches", "0"), ("end", "0"), ("length 3", "3"))

    def test_cut_where_nothing_runs(self):
        desk = Desk()
        self.check_answers(desk, ("page 0 0; snap 3 1", "2-3"), ("told 2", "- 0 0 cut"), ("told 3", "- 0 0 left"),
                           ("end", "3"), ("stretches", "2"))


class Rows(DeskTest):
    def test_row_and_draw(self):
        self.check_answers(
            Desk(), ("draw 4", "- 0"), (f"row {ROW}", "ok"), ("draw 4", "0,3,7 13"), ("draw 1", "0,7,14 20"),
            ("draw 6", "0,0,3 7"), ("row 1:4x6", "ok"), ("draw 4", "0 6"), ("row -", "ok"), ("draw 4", "- 0"))

    def test_to(self):
        self.check_answers(
            Desk(), ("to 1 0", "drawn 0"), ("to 1 1", "thin 0 0"), (f"row {ROW}", "ok"), ("to 4 0", "drawn 0"),
            ("to 4 3", "drawn 1"), ("to 4 4", "drawn 2"), ("to 4 13", "drawn 3"), ("to 4 14", "thin 13 0"),
            (f"to 4 {FORTY}", "thin 13 0"), ("to 6 7", "drawn 3"), ("to 6 8", "thin 7 4"),
            ("to 99 1", "thin 0 14"))
        # Both run there still, too thin together.
        row = (NARROW, NARROW)
        desk = Desk()
        desk.say(f"row {show_row(row)}")
        self.check_answers(desk, ("to 5 7", "thin 6 4"))
        self.assertEqual(drawn_to(row, 5, 7), ("thin", 6, (2, 2)))

    def test_cost(self):
        desk = Desk()
        self.check_answers(desk, ("cost 1 0", "0 0"), ("cost 1 1", "0 never"), (f"row {ROW}", "ok"), ("cost 4 9",
                           "0 0"), ("page 1 1; snap 5 2", "3-5"), ("cost 4 99", "4 never"))
        row = (NARROW, NARROW, (1, ((4, 6),)))
        for length in range(16):
            lost, more = cost(row, 4, ((5, 2),), length)
            self.check_answers(desk, (f"cost 4 {length}", f"{lost} {'never' if more is None else more}"))

    def test_rows_of_sixty_and_sixty_one(self):
        desk = Desk()
        self.check_answers(desk, ("row " + show_row(full_row()), "ok"))
        self.assertEqual(desk.say("draw 3").count(","), 59)
        self.refused("row " + " ".join(["1:4x6"] * 61))

    def test_rows_at_fault(self):
        for line in ("row", "row ", "row  -", "row - ", f"row  {ROW}", f"row {ROW} ", "row 1:4x6  1:4x6", "row 2:4x6",
                     "row 0:5x3,5x3", "row x", "Row -", "rows -", "row - -", f"row - {ROW}", "row", "row 1:4x6;",
                     "row-", "row\n-", "row -\n", f"row {ROW}, 1:4x6", "row 5"):
            self.refused(line)

    def test_a_refused_row_behind_a_good_one_which_stays(self):
        desk = Desk()
        desk.say(f"row {ROW}")
        self.refused("row 1:4x6 2:4x6", NoLine, desk)
        self.check_answers(desk, ("draw 4", "0,3,7 13"))

    def test_low_of_zero(self):
        for line in ("draw 0", "to 0 9", "cost 0 9", "to 0 0", "cost 0 0"):
            self.refused(line)
            self.refused(line, NoLine, Desk())

    def test_forty_figures(self):
        desk = Desk()
        self.check_answers(
            desk, (f"row 0:{FORTY}x{FORTY} 1:{FORTY}x{FORTY}", "ok"), (f"draw {FORTY}", f"0,{FORTY} {2 * BIG}"),
            (f"to {FORTY} {FORTY}", "drawn 1"), ("draw 1", f"0,{FORTY} {2 * BIG}"),
            (f"page {FORTY} {FORTY}; snap {FORTY} {FORTY}", f"0-{FORTY}"),
            (f"cost {FORTY} {FORTY}", f"{BIG} 0"), (f"cost {FORTY} 1", f"{BIG} 0"))


class Mix(DeskTest):
    def test_mix(self):
        self.check_answers(
            Desk(), ("mix 2 1 7", "1001001"), ("mix 1 0 3", "000"), ("mix 0 1 3", "111"), ("mix 1 1 0", "-"),
            ("mix 1 1 1", "1"), ("mix 1 1 4", "1010"), (f"mix {FORTY} {FORTY} 4", "1010"))

    def test_sixty_picks_and_sixty_one(self):
        for m, n in ((1, 2), (3, 5), (7, 0), (BIG, 1)):
            answer = Desk().say(f"mix {m} {n} 60")
            self.assertEqual(answer, "".join(str(sort_of((m, n), k)) for k in range(60)))
            self.assertEqual((answer.count("0"), answer.count("1")), taken((m, n), 60))
            for many in (61, 62, BIG):
                self.refused(f"mix {m} {n} {many}")

    def test_no_mixture(self):
        for many in (0, 1, 60):
            self.refused(f"mix 0 0 {many}")


class Baskets(DeskTest):
    def test_fewest_and_longest(self):
        self.check_answers(
            Desk(), ("basket 0:3x2,1x1*2", "ok"), ("fewest 3 3 1 4", "fewest 2"), ("fewest 3 3 1 5", "never 4"),
            ("fewest 3 3 1 20", "never 4"), ("longest 3 3 1", "longest 4"), ("fewest 3 3 1 0", "fewest 0"),
            ("longest 4 5 1", "longest 0"), ("fewest 4 5 1 1", "never 0"),
            (f"basket {BASKET}", "ok"), ("longest 3 5 2", "endless"), ("fewest 3 5 2 5", "fewest 3"),
            ("longest 5 5 2", "longest 4"))

    def test_open_at_more_than_300(self):
        # 10 * 10 * 10 states are come to, by twos 10 * 10.
        desk = Desk()
        desk.say(text_of_basket(((DOT, 9), (DOT, 9), (DOT, 9))))
        self.check_answers(desk, ("longest 1 1 1", "open"), ("fewest 1 1 1 20", "open"), ("fewest 1 1 1 9", "fewest 9"))
        desk.say(text_of_basket(((DOT, 9), (DOT, 9))))
        self.check_answers(desk, ("longest 1 1 1", "longest 18"), ("fewest 1 1 1 19", "never 18"))

    def test_just_300_and_one_more(self):
        # 10 * 10 * 3 states, all come to; then 10 * 10 * 4.
        for many, due in ((2, "longest 20"), (3, "open")):
            desk = Desk()
            desk.say(text_of_basket(((DOT, 9), (DOT, 9), (DOT, many))))
            self.assertEqual(longest(((DOT, 9), (DOT, 9), (DOT, many)), (1, 1, 1), 300)[0], due.split(" ")[0])
            self.check_answers(desk, ("longest 1 1 1", due))
        self.assertEqual(longest(((DOT, 9), (DOT, 9), (DOT, 2)), (1, 1, 1), 299), ("open", None))

    def test_many(self):
        desk = Desk()
        for many in range(10):
            self.check_answers(desk, (f"basket 0:1x1*{many}", "ok"), ("longest 1 1 1", f"longest {many}"))
        self.check_answers(desk, ("basket 0:1x1*-", "ok"), ("longest 1 1 1", "endless"))

    def test_kinds(self):
        desk = Desk()
        for many in (1, 2, 3, 4):
            self.check_answers(desk, ("basket" + " 0:1x1*1" * many, "ok"), ("longest 1 1 1", f"longest {many}"))
        self.check_answers(desk, (f"basket {show_wisp(STEEP)}*1", "ok"), ("longest 1 8 1", "longest 8"))

    def test_baskets_at_fault(self):
        for kinds in ("", " ", "0:1x1", "0:1x1*", "0:1x1*10", "0:1x1*11", f"0:1x1*{FORTY}", "0:1x1*01", "0:1x1*--",
                      "0:1x1*-1", "0:1x1*+1", "0:1x1*a", "0:1x1*1 ", " 0:1x1*1", "0:1x1*1  0:1x1*1", "0:1x1 *1",
                      "0:1x1* 1", "0:1x1**1",
                      "0:1x1*1*1", "*1", "1*0:1x1", "-", "*-", "0:1x9*1", "0:2x8,1x1*1", f"0:1x{FORTY}*1", "2:1x1*1",
                      "0:2x1,2x1*1", "0:1x1*1," + "0:1x1*1", "0:1x1*1;", "0:1x1*None", "0:1x1-", "0:1x1*1 0:1x1",
                      "0:1x1*1\n", "0:1x1*-0", "0:1x1*0-", "0:1x1*1 -", " ".join(["0:1x1*1"] * 5),
                      " ".join(["0:1x1*1"] * 6)):
            self.refused(f"basket {kinds}")
            self.refused(f"basket {kinds}", NoLine, Desk())
        for line in ("basket", "basket ", "baskets 0:1x1*1", "Basket 0:1x1*1", "basket0:1x1*1", "bask 0:1x1*1"):
            self.refused(line)

    def test_a_refused_basket_behind_a_good_one_which_stays(self):
        desk = filled()
        self.refused("basket 0:1x1*1 0:1x1*10", NoLine, desk)
        self.check_answers(desk, ("longest 5 5 2", "longest 4"))

    def test_without_a_basket(self):
        desk = Desk()
        for line in ("fewest 3 5 2 5", "longest 3 5 2", "fewest 3 5 2 0"):
            self.refused(line, NoLine, desk)
        desk.say("basket 0:1x1*0")
        self.check_answers(desk, ("fewest 3 5 2 5", "never 0"), ("longest 3 5 2", "longest 0"))

    def test_frames(self):
        for frame in ("0 5 2", "0 0 2", "6 5 2", "3 5 0", "3 5 4", f"3 5 {FORTY}", f"{FORTY} 5 2"):
            self.refused(f"longest {frame}")
            self.refused(f"fewest {frame} 5")
            self.refused(f"fewest {frame} 0")
        desk = filled()
        for frame in ("1 1 1", "5 5 3", f"1 {FORTY} 2", f"{FORTY} {FORTY} 1"):
            desk.say(f"longest {frame}")
            desk.say(f"fewest {frame} 0")

    def test_lengths(self):
        desk = Desk()
        desk.say("basket 0:1x1*-")
        self.check_answers(desk, ("fewest 1 1 1 0", "fewest 0"), ("fewest 1 1 1 20", "fewest 20"))
        for length in (21, 22, BIG):
            self.refused(f"fewest 1 1 1 {length}", NoLine, desk)

    def test_forty_figures(self):
        desk = Desk()
        wisp = f"0:{FORTY}x1,{BIG - 1}x1"
        self.check_answers(desk, (f"basket {wisp}*2", "ok"), (f"longest {FORTY} {FORTY} 1", "longest 2"),
                           (f"longest {BIG - 1} {FORTY} 1", "longest 4"), (f"fewest {BIG - 1} {FORTY} 1 4", "fewest 2"),
                           (f"fewest {BIG - 1} {FORTY} 1 5", "never 4"))


class Lines(DeskTest):
    def test_words_too_few_too_many_and_misspelt(self):
        for line in ASKING:
            words = line.split(" ")
            filled().say(line)
            for many in range(len(words)):
                self.refused(" ".join(words[:many]))
            for more in ("1", "", "x", "0"):
                self.refused(f"{line} {more}")
                self.refused(f"{more} {line}")
            for word in (words[0].upper(), words[0].title(), words[0] + "s", words[0][:-1], words[0] + ":", "x"):
                self.refused(" ".join([word] + words[1:]))
            self.refused(line.replace(" ", "  ") if " " in line else line + "  ")
            self.refused(line + "\n")
            self.refused("\n" + line)
            self.refused(line + "; " + line)
            self.refused(line + ";")
            self.refused(line.replace(" ", "\t") + "\t")

    def test_numbers(self):
        for line in ASKING:
            words = line.split(" ")
            for at in range(1, len(words)):
                for wrong in NO_FIGURES:
                    self.refused(" ".join(words[:at] + [wrong] + words[at + 1:]))

    def test_other_texts(self):
        for line in ("", " ", "-", "ok", "put", "pages", "entries", "say", "open", "never", "lay a 0:1x1 5", "let a 5",
                     "snap 4 1", "0:1x1", "5", ROW, BASKET, "told", "row", "basket", "page", "x" * 6000, " " * 6000,
                     "told 3 told 3", "__init__", "say told 3", "thin 3 3", "\n", ";", "; "):
            self.refused(line)

    def test_other_things(self):
        for thing in NO_TEXTS + [["told 3"], ("told 3",), b"told 3", {"told 3": 1}, ("told", 3), ["told", "3"]]:
            self.refused(thing)
            self.refused(thing, NoLine, Desk())

    def test_no_other_refusal_comes_through(self):
        # What reading refuses with NoText the desk refuses with NoLine.
        self.assertRaises(NoText, read_page, "page 1 1; x")
        self.refused("page 1 1; x")
        self.refused("page 3 1; x")

    def test_two_desks_by_turns(self):
        one, other = Desk(), Desk()
        self.check_answers(one, (PAGE, "0-6"), (f"row {ROW}", "ok"), (f"basket {BASKET}", "ok"))
        self.check_answers(other, ("end", "0"), ("draw 4", "- 0"), ("page 1 1", "-"))
        self.refused("longest 3 5 2", NoLine, other)
        self.check_answers(other, ("row 1:4x6", "ok"), ("basket 0:1x1*1", "ok"), ("longest 1 1 1", "longest 1"))
        self.check_answers(one, ("draw 4", "0,3,7 13"), ("longest 3 5 2", "endless"), ("end", "6"), (PAGE, "-"))
        self.refused(PAGE, Twice, other)

    def test_asked_again_the_same_is_told(self):
        desk = filled()
        self.assertEqual(all_answers(desk), all_answers(desk))
        self.assertNotIn(NoLine, all_answers(desk))


class AsAllTheOthers(DeskTest):
    def joined(self, things, sign=","):
        return sign.join(str(thing) for thing in things) or "-"

    def test_books(self):
        chance = random.Random(140)
        for _ in range(60):
            desk, book = Desk(), Book()
            for _ in range(5):
                page = some_page(chance)
                try:
                    runs = book.put(page)
                except Twice:
                    self.refused(show_page(page), Twice, desk)
                else:
                    due = " ".join(f"{start}-{end}" for start, end in runs) or "-"
                    self.check_answers(desk, (show_page(page), due))
            self.check_answers(desk, ("stretches", str(len(book.stretches()))), ("end", str(book.end())))
            for moment in range(0, 40, 3):
                names, sorts, cut = book.told(moment)
                self.check_answers(desk, (f"length {moment}", str(book.length(moment))), (
                    f"told {moment}", f"{self.joined(names)} {sorts[0]} {sorts[1]} {('left', 'cut')[cut]}"))

    def test_rows(self):
        chance = random.Random(141)
        for _ in range(60):
            desk, row, low = Desk(), some_row(chance), chance.randint(1, 8)
            page = some_page(chance)
            desk.say(show_page(page))
            self.check_answers(desk, (f"row {show_row(row)}", "ok"), (
                f"draw {low}", f"{self.joined(drawn(row, low))} {lasting(row, low)}"))
            for length in (0, 1, lasting(row, low), lasting(row, low) + 1, chance.randint(0, 30)):
                told = drawn_to(row, low, length)
                due = f"drawn {len(told[1])}" if told[0] == "drawn" else f"thin {told[1]} {sum(told[2])}"
                lost, more = cost(row, low, breaks_by(page[2]), length)
                self.check_answers(desk, (f"to {low} {length}", due), (
                    f"cost {low} {length}", f"{lost} {'never' if more is None else more}"))

    def test_baskets(self):
        chance = random.Random(142)
        words = set()
        for _ in range(80):
            desk, basket, frame = Desk(), some_basket(chance, 6, 3), some_frame(chance)
            self.check_answers(desk, (text_of_basket(basket), "ok"))
            told = longest(basket, frame, 300)
            due = f"longest {told[1]}" if told[0] == "longest" else told[0]
            numbers = " ".join(str(number) for number in frame)
            self.check_answers(desk, (f"longest {numbers}", due))
            for length in (0, 1, 4, 20):
                some = fewest(basket, frame, length, 300)
                due = "open" if some[0] == "open" else f"{some[0]} {some[1]}"
                self.check_answers(desk, (f"fewest {numbers} {length}", due))
                words.update({told[0], some[0]})
        self.assertEqual(words, {"open", "longest", "endless", "fewest", "never"})

    def test_mixtures(self):
        for m in range(5):
            for n in range(5):
                for many in (0, 1, 2, 9, 60):
                    if m + n > 0:
                        due = self.joined([sort_of((m, n), k) for k in range(many)], "")
                        self.check_answers(Desk(), (f"mix {m} {n} {many}", due))

    def test_kinds_as_written(self):
        basket = ((LONG, 2), (SHORT, None), (DOT, 0), (STEEP, 9))
        line = "basket 0:3x2,1x1*2 1:2x2*- 0:1x1*0 0:8x1,7x1,6x1,5x1,4x1,3x1,2x1,1x1*9"
        self.assertEqual(text_of_basket(basket), line)
        told = fewest(basket, (8, 8, 2), 6, 300)
        self.assertEqual(told[0], "fewest")
        self.check_answers(Desk(), (line, "ok"), ("fewest 8 8 2 6", f"fewest {told[1]}"))


if __name__ == "__main__":
    unittest.main()
