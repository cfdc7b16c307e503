"""Point 20: books; of point 3 (g) that a book is what its pages are, and that just what changes is told."""

import itertools
import random
import unittest

from evenstrand.book import Book
from evenstrand.breaking import left
from evenstrand.entries import breaks_by, is_page, told_at
from evenstrand.errors import NoPage, Twice
from tests.samples import BIG, EVEN, NARROW, STEEP, anything, asked_twice, check_refused, nested
from tests.test_breaking import model_kept, runs_of
from tests.test_entries import LAY, LET, NO_NAMES, NO_NUMBERS, SNAP, last_of, model_told, some_entries

NOTHING = ((), (0, 0), False)


def entries_of(pages):
    """The entries of those of these pages that count, by numbers."""
    greatest = {}
    for number, version, entries in pages:
        greatest[number] = max(greatest.get(number, (-1, ())), (version, entries), key=lambda pair: pair[0])
    return tuple(entry for number in sorted(greatest) for entry in greatest[number][1])


def told_to(entries, last):
    """What is told of each moment below last, by going moment by moment."""
    told = model_told(entries)[:last]
    return told + [NOTHING] * (last - len(told))


def model_runs(ahead, behind):
    """The runs of moments that are otherwise, by going moment by moment."""
    last = max(last_of(ahead), last_of(behind))
    pairs = zip(told_to(ahead, last), told_to(behind, last))
    return runs_of([moment for moment, (one, other) in enumerate(pairs) if one != other])


def model_stretches(entries):
    """The stretches, by going moment by moment and joining those that are alike."""
    told = model_told(entries)
    end = max([moment + 1 for moment, one in enumerate(told) if one != NOTHING], default=0)
    joined = []
    for moment, one in enumerate(told[:end]):
        if joined and joined[-1][2:] == one:
            joined[-1] = (joined[-1][0], moment + 1) + one
        else:
            joined.append((moment, moment + 1) + one)
    return tuple(joined)


def all_told(book, moments=range(60)):
    """All that a book tells."""
    told = [(book.told(moment), book.length(moment)) for moment in moments]
    return (book.pages(), book.entries(), book.end(), book.stretches(), told)


def some_page(chance):
    return (chance.randint(0, 3), chance.randint(0, 3), some_entries(chance, 5))


def book_of(*pages):
    book = Book()
    for page in pages:
        book.put(page)
    return book


class BookTest(unittest.TestCase):
    def put(self, book, page):
        """Puts a page, and looks at what is told of it."""
        ahead, shown = book.entries(), repr(page)
        runs = book.put(page)
        self.assertEqual(repr(page), shown)
        self.assertEqual(runs, model_runs(ahead, book.entries()))
        return runs

    def check(self, book, pages):
        """That a book tells what these pages tell."""
        entries = entries_of(pages)
        self.assertEqual(asked_twice(self, book.entries), entries)
        greatest = {}
        for number, version, _ in sorted(pages):
            greatest[number] = version
        self.assertEqual(asked_twice(self, book.pages), tuple(sorted(greatest.items())))
        self.assertEqual(asked_twice(self, book.stretches), model_stretches(entries))
        self.assertEqual(asked_twice(self, book.end), (model_stretches(entries) or ((0, 0),))[-1][1])
        for moment, due in enumerate(model_told(entries)):
            self.assertEqual(book.told(moment), due)
            self.assertEqual(book.told(moment), told_at(entries, moment))
            self.assertEqual(book.length(moment), len(model_kept(moment, breaks_by(entries))))

    def refused(self, book, page, kind):
        """That a page is refused, with its own class alone, and nothing is otherwise behind it."""
        ahead = all_told(book)
        check_refused(self, book.put, page, kind)
        self.assertEqual(all_told(book), ahead)


class Put(BookTest):
    def test_a_book_without_pages(self):
        book = Book()
        self.assertEqual((book.pages(), book.entries(), book.end(), book.stretches()), ((), (), 0, ()))
        for moment in (0, 1, BIG):
            self.assertEqual((asked_twice(self, book.told, moment), asked_twice(self, book.length, moment)),
                             (NOTHING, moment))

    def test_by_hand(self):
        book = Book()
        self.assertEqual(self.put(book, (1, 1, (LAY, LET))), ((2, 5),))
        self.assertEqual(self.put(book, (0, 1, (("lay", "b", EVEN, 4),))), ((4, 10),))
        # NARROW 5 5 5 from 2 on, EVEN 4 from 4 on: 4 falls off at 5, and all that run.
        self.assertEqual(self.put(book, (5, 0, (("snap", 5, 1),))), ((4, 10),))
        self.assertEqual(book.pages(), ((0, 1), (1, 1), (5, 0)))
        self.assertEqual(book.entries(), (("lay", "b", EVEN, 4), LAY, LET, ("snap", 5, 1)))
        self.assertEqual(book.stretches(), (
            (0, 2, (), (0, 0), False), (2, 4, ("a",), (5, 0), False), (4, 5, ("a", "b"), (5, 4), True)))
        self.assertEqual(book.end(), 5)

    def test_a_page_put_twice(self):
        book = Book()
        page = (1, 1, (LAY,))
        self.assertEqual(self.put(book, page), ((2, 9),))
        ahead = all_told(book)
        for _ in range(3):
            self.assertEqual(book.put(page), ())
            self.assertEqual(book.put((1, 1, tuple([LAY]))), ())
        self.assertEqual(all_told(book), ahead)

    def test_a_page_put_with_other_entries(self):
        book = book_of((1, 1, (LAY,)), (1, 2, (LAY, LET)), (2, 1, ()))
        for page in ((1, 2, (LAY,)), (1, 2, (LET, LAY)), (1, 2, ()), (1, 2, (LAY, LET, LET)), (2, 1, (SNAP,)),
                     (1, 1, (LAY, LET)), (1, 1, ())):
            self.refused(book, page, Twice)
        self.assertEqual(book.put((1, 1, (LAY,))), ())
        self.assertEqual(book.put((1, 2, (LAY, LET))), ())

    def test_a_version_below_the_one_that_counts_put_later(self):
        book = book_of((1, 5, (LAY,)))
        ahead = all_told(book)
        self.assertEqual(book.put((1, 4, (SNAP, LET))), ())
        self.assertEqual(book.put((1, 0, ())), ())
        self.assertEqual(all_told(book), ahead)
        self.refused(book, (1, 4, (SNAP,)), Twice)
        self.assertEqual(self.put(book, (1, 6, ())), ((2, 9),))
        self.assertEqual(book.pages(), ((1, 6),))

    def test_versions_are_numbers(self):
        book = book_of((1, 9, (LAY,)))
        self.assertEqual(self.put(book, (1, 10, ())), ((2, 9),))
        self.assertEqual(self.put(book, (1, BIG, (LAY,))), ((2, 9),))
        self.assertEqual(book.put((1, BIG - 1, (SNAP,))), ())
        self.assertEqual(book.pages(), ((1, BIG),))

    def test_a_page_without_entries(self):
        book = Book()
        self.assertEqual(self.put(book, (3, 0, ())), ())
        self.assertEqual((book.pages(), book.entries()), (((3, 0),), ()))
        self.assertEqual(self.put(book, (3, 1, (LAY,))), ((2, 9),))
        self.assertEqual(self.put(book, (3, 2, ())), ((2, 9),))

    def test_a_name_that_stands_in_several_pages(self):
        book = Book()
        self.put(book, (2, 1, (("lay", "a", EVEN, 0),)))
        self.assertEqual(self.put(book, (3, 1, (("lay", "a", NARROW, 20),))), ())
        # Page 1 is ahead of page 2: now it lays a.
        self.assertEqual(self.put(book, (1, 1, (LAY,))), ((0, 9),))
        self.assertEqual(book.told(2), (("a",), (5, 0), False))
        # Another version without it: page 2 lays it again, then page 3.
        self.assertEqual(self.put(book, (1, 2, ())), ((0, 9),))
        self.assertEqual(self.put(book, (2, 2, (SNAP,))), ((0, 6), (20, 27)))
        self.assertEqual(book.told(20), (("a",), (5, 0), False))

    def test_a_let_and_its_lay_in_two_pages(self):
        book = Book()
        self.assertEqual(self.put(book, (1, 1, (LET,))), ())
        self.assertEqual(self.put(book, (2, 1, (LAY,))), ((2, 5),))
        self.assertEqual(self.put(book, (1, 2, ())), ((5, 9),))

    def test_a_page_that_changes_nothing(self):
        book = book_of((1, 1, (LAY,)))
        for page in ((2, 1, (LAY,)), (3, 1, (("let", "a", 2),)), (4, 1, (("let", "b", 2),)), (5, 1, (("snap", 0, 9),)),
                     (6, 1, (("let", "a", 9),)), (7, 1, (("snap", 9, 0),)), (1, 2, (LAY, LAY))):
            self.assertEqual(self.put(book, page), ())
        self.assertEqual(len(book.pages()), 7)

    def test_moments_at_the_begin_and_at_the_end_of_a_run(self):
        book = book_of((1, 1, (LAY,)))
        self.assertEqual(self.put(book, (1, 2, (("lay", "a", NARROW, 3),))), ((2, 3), (5, 6), (9, 10)))
        for start, end in ((2, 3), (5, 6), (9, 10)):
            told = [book.told(moment) == told_at((LAY,), moment) for moment in (start - 1, start, end - 1, end)]
            self.assertEqual(told, [True, False, False, True])

    def test_two_runs_and_runs_that_touch(self):
        book = book_of((1, 1, (LAY,)))
        self.assertEqual(self.put(book, (2, 1, (("lay", "b", EVEN, 0), ("lay", "c", EVEN, 20)))), ((0, 6), (20, 26)))
        # One ends where the next begins, in another way otherwise: one run.
        self.assertEqual(self.put(book, (3, 1, (("lay", "d", EVEN, 30), ("lay", "e", STEEP, 36)))), ((30, 44),))

    def test_a_break_that_comes_late_and_cuts_off_places(self):
        book = book_of((1, 1, (LAY,)))
        self.assertEqual(self.put(book, (2, 1, (("snap", 20, 3),))), ((17, 20),))
        self.assertEqual(self.put(book, (3, 1, (("snap", 6, 1),))), ((5, 9),))
        # Of 0 to 4, 6 to 16 and 20 to 29 the last 20 fall off.
        self.assertEqual(self.put(book, (4, 1, (("snap", 30, 20),))), ((7, 17), (20, 30)))
        self.assertEqual([book.told(moment)[2] for moment in (4, 5, 6, 7, 16, 19, 29, 30)],
                         [False, True, False, True, True, True, True, False])
        self.assertEqual(book.end(), 30)

    def test_other_things(self):
        book = book_of((1, 1, (LAY,)), (2, 3, ()))
        things = anything() + [
            (), (1,), (1, 1), [1, 1, (LAY,)], (1, 1, [LAY]), (1, 1, (LAY,), 0), (1, 1, (list(LAY),)), (1, 1, LAY),
            (1, 1, None), (1, 1, (SNAP,) * 21), (2, 3, []), (2, 3, ""), (2, 3, {}), (2, 3), (1, 1, nested(59)),
            (True, 1, (LAY,)), (1, True, (LAY,)), (True, True, (LAY,)), (1, 1, (("snap", True, 1),)),
            (1, 1, (LAY[:3] + (True,),)), "page 1 1", (1, 1, (None,)), (1, 1, ((LAY,),))]
        things += [(number, 1, ()) for number in NO_NUMBERS] + [(1, number, ()) for number in NO_NUMBERS]
        things += [(1, 1, (("let", name, 5),)) for name in NO_NAMES]
        for thing in things:
            self.assertFalse(is_page(thing))
            self.refused(book, thing, NoPage)

    def test_pages_of_twenty_entries(self):
        book = Book()
        entries = tuple(("snap", 2 * k, 1) for k in range(20))
        self.put(book, (1, 1, entries))
        self.refused(book, (1, 1, entries + (SNAP,)), NoPage)
        self.assertEqual(book.entries(), entries)

    def test_two_books_by_turns(self):
        one, other = Book(), Book()
        self.assertEqual(one.put((1, 1, (LAY,))), ((2, 9),))
        self.assertEqual((other.pages(), other.end()), ((), 0))
        self.assertEqual(other.put((1, 1, (SNAP,))), ((3, 4),))
        self.assertEqual(one.put((1, 2, (LAY, LET))), ((5, 9),))
        self.assertEqual((one.entries(), other.entries()), ((LAY, LET), (SNAP,)))
        self.assertEqual((one.length(9), other.length(9)), (9, 8))

    def test_what_was_told_stays_as_it_was(self):
        book = book_of((1, 1, (LAY,)))
        told = all_told(book)
        kept = repr(told)
        book.put((1, 2, (SNAP, LET)))
        self.assertEqual(repr(told), kept)

    def test_forty_figures(self):
        book = Book()
        wisp = (0, ((BIG, BIG),))
        self.assertEqual(book.put((BIG, BIG, (("lay", "a", wisp, BIG - 3),))), ((BIG - 3, 2 * BIG - 3),))
        self.assertEqual(book.put((BIG - 1, 0, (("snap", BIG, BIG - 1), ("lay", "b", wisp, 5)))),
                         ((1, 2 * BIG - 3),))
        self.assertEqual(book.pages(), ((BIG - 1, 0), (BIG, BIG)))
        self.assertEqual(book.stretches(), (
            (0, 1, (), (0, 0), False), (1, 5, (), (0, 0), True), (5, BIG - 3, ("b",), (BIG, 0), True),
            (BIG - 3, BIG, ("a", "b"), (2 * BIG, 0), True)))
        self.assertEqual(book.end(), BIG)
        self.assertEqual([book.length(moment) for moment in (0, BIG - 1, BIG)], [0, BIG - 1, 1])
        self.assertEqual([book.told(moment) for moment in (0, BIG - 1, BIG)], [
            NOTHING, (("a", "b"), (2 * BIG, 0), True), NOTHING])
        self.assertEqual(book.put((BIG - 1, 1, ())), ((1, 2 * BIG - 3),))


class Told(BookTest):
    def test_length_ahead_of_at_and_behind_a_break(self):
        book = book_of((1, 1, (("snap", 5, 2), ("snap", 9, 0))))
        self.assertEqual([book.length(moment) for moment in (0, 4, 5, 6, 8, 9, 10)], [0, 4, 3, 4, 6, 7, 8])
        self.assertEqual([book.length(moment) for moment in range(12)],
                         [left(moment, ((5, 2), (9, 0))) for moment in range(12)])

    def test_neighbours_alike_in_all_but_cut(self):
        book = book_of((1, 1, (("snap", 20, 3),)))
        self.assertEqual(book.stretches(), ((0, 17, (), (0, 0), False), (17, 20, (), (0, 0), True)))
        book.put((2, 1, (("lay", "a", EVEN, 4), ("snap", 30, 25))))
        self.check(book, [(1, 1, (("snap", 20, 3),)), (2, 1, (("lay", "a", EVEN, 4), ("snap", 30, 25)))])

    def test_neighbours_alike_in_names_or_in_sorts(self):
        book = book_of((1, 1, (("lay", "a", EVEN, 0), ("lay", "b", EVEN, 6), ("lay", "c", STEEP, 12))))
        self.assertEqual([part[:4] for part in book.stretches()[:3]], [
            (0, 6, ("a",), (0, 4)), (6, 12, ("b",), (0, 4)), (12, 13, ("c",), (8, 0))])
        self.assertEqual([part[3] for part in book.stretches()[2:]], [(8 - k, 0) for k in range(8)])

    def test_the_end(self):
        for entries, end in ((LAY,), 9), ((LAY, LET), 5), ((SNAP,), 4), ((("snap", 4, 0),), 0), ((LAY, SNAP), 4), (
                (LAY, ("snap", 40, 1)), 40), ((LAY, ("snap", 40, 0)), 9), ((("snap", 0, 5),), 0), ((LET,), 0):
            self.assertEqual(asked_twice(self, book_of((1, 1, entries)).end), end)

    def test_small_books_moment_by_moment(self):
        chance = random.Random(110)
        for _ in range(120):
            book, pages = Book(), []
            for _ in range(chance.randint(1, 5)):
                page = some_page(chance)
                others = [other for other in pages if other[:2] == page[:2] and other[2] != page[2]]
                if others:
                    self.refused(book, page, Twice)
                else:
                    self.put(book, page)
                    pages.append(page)
            self.check(book, pages)

    def test_several_orders(self):
        chance = random.Random(111)
        for _ in range(40):
            pages = list({page[:2]: page for page in [some_page(chance) for _ in range(4)]}.values())
            told = [all_told(book_of(*order)) for order in itertools.permutations(pages)]
            self.assertTrue(all(one == told[0] for one in told))
            self.check(book_of(*pages), pages)

    def test_a_refused_page_between_makes_no_difference(self):
        chance = random.Random(112)
        for _ in range(40):
            pages = [some_page(chance) for _ in range(3)]
            book = Book()
            for page in pages:
                try:
                    book.put(page)
                except Twice:
                    pages = [other for other in pages if other is not page]
                for wrong in (None, page + (0,), page[:2] + (page[2] + (("snap", 99, 1),),)):
                    self.assertRaises((NoPage, Twice), book.put, wrong)
            self.assertEqual(all_told(book), all_told(book_of(*pages)))

    def test_full_books(self):
        names = ["".join(pair) for pair in itertools.product("abcdefgh", repeat=2)][:60]
        lays = [("lay", name, STEEP, 2 * k) for k, name in enumerate(names)]
        snaps = tuple(("snap", 7 * k, k % 4) for k in range(20))
        pages = [(k, 0, tuple(lays[20 * k:20 * k + 20])) for k in range(3)] + [(3, 0, snaps)]
        book = Book()
        for page in pages:
            self.put(book, page)
        self.check(book, pages)

    def test_somewhat_beyond_the_bounds_nothing_is_raised(self):
        book = book_of(*[(k, 0, tuple(("snap", 20 * k + j, 1) for j in range(20))) for k in range(2)])
        self.assertEqual(len(book.entries()), 40)
        all_told(book)


if __name__ == "__main__":
    unittest.main()
