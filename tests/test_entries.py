"""Point 19: entries and pages, what counts of them, and what is told of each moment; of point 3 (d) what they tell."""

import itertools
import random
import unittest

from evenstrand.breaking import are_breaks, left
from evenstrand.broken import drawn_with, lasting_with, with_breaks
from evenstrand.entries import (
    breaks_by, counting, is_entry, is_page, names_by, strand_by, told_at)
from evenstrand.strands import by_sorts, is_strand, running
from tests.samples import (
    BIG, EVEN, NARROW, STEEP, anything, asked_twice, check_nothing_fits, is_truth, nested, not_wisps, some_row,
    some_wisp, thin_out)
from tests.test_breaking import some_breaks

LAY = ("lay", "a", NARROW, 2)
LET = ("let", "a", 5)
SNAP = ("snap", 4, 1)
NO_NAMES = ["", "abcdefghi", "A", "aB", "a1", "1", "a b", " a", "a ", "a-", "-", "a\n", "\n", "a_b", "\u00e4", "\u0430",
            "\u00df", b"a", b"", None, True, 0, 1, ("a",), ["a"], (), {"a"}, {"a": 1}, nested(58), "a" * 5000]
NO_NUMBERS = [-1, -BIG, True, False, None, "5", "", b"5", (5,), [5], (), {5}, nested(58)]


class Counted:
    """Entries gone through moment by moment: what runs at each, and whose places are left at last."""

    def __init__(self, entries, last):
        self.lays, self.lets, self.snaps = {}, {}, {}
        for entry in entries:
            if entry[0] == "lay" and entry[1] not in self.lays:
                self.lays[entry[1]] = entry
            if entry[0] == "snap" and entry[1] not in self.snaps:
                self.snaps[entry[1]] = entry
        for entry in sorted([entry for entry in entries if entry[0] == "let"], key=lambda entry: entry[2]):
            if entry[1] in self.lays and entry[2] > self.lays[entry[1]][3]:
                self.lets.setdefault(entry[1], entry)
        self.told, self.kept = {}, []
        runs = {}
        for moment in range(last + 1):
            runs = self.gone_on(runs, moment)
            those = [(self.lays[name][2][0], runs[name][0]) for name in runs]
            self.told[moment] = (tuple(sorted(runs)), tuple(sum(t for s, t in those if s == sort) for sort in (0, 1)))
            self.kept.append(moment)

    def gone_on(self, runs, moment):
        """What runs at a moment, each name with its thicknesses from there on."""
        runs = {name: rest[1:] for name, rest in runs.items() if rest[1:]}
        if moment in self.snaps:
            runs = {}
            for _ in range(min(self.snaps[moment][2], len(self.kept))):
                self.kept.pop()
        for name, entry in self.lays.items():
            if entry[3] == moment:
                runs[name] = thin_out(entry[2])
        return {name: rest for name, rest in runs.items()
                if not (name in self.lets and self.lets[name][2] == moment)}


def last_of(entries):
    """A moment behind all that entries tell."""
    return max([number for entry in entries for number in entry if isinstance(number, int)], default=0) + 40


def model_told(entries):
    """What is told of each moment, by going moment by moment."""
    counted = Counted(entries, last_of(entries))
    return [counted.told[moment] + (moment not in counted.kept,) for moment in range(last_of(entries) + 1)]


def some_entry(chance, last=12):
    name = chance.choice(["a", "b", "c", "dd"])
    return chance.choice([
        ("lay", name, some_wisp(chance), chance.randint(0, last)),
        ("lay", name, some_wisp(chance), chance.randint(0, last)),
        ("let", name, chance.randint(0, last)),
        ("snap", chance.randint(0, last), chance.choice([0, 1, 1, 2, 3, 5, 20])),
    ])


def some_entries(chance, most=9):
    return tuple(some_entry(chance) for _ in range(chance.randint(0, most)))


class IsEntry(unittest.TestCase):
    def test_entries_of_all_sorts(self):
        for thing in (LAY, LET, SNAP, ("lay", "abcdefgh", STEEP, 0), ("lay", "z", (0, ((BIG, BIG),)), BIG),
                      ("let", "abcdefgh", 0), ("let", "a", BIG), ("snap", 0, 0), ("snap", BIG, BIG),
                      ("lay", "lay", NARROW, 1), ("let", "snap", 1)):
            self.assertTrue(is_truth(self, is_entry, thing))

    def test_names(self):
        for many in range(11):
            for make in (lambda name: ("lay", name, NARROW, 2), lambda name: ("let", name, 5)):
                self.assertEqual(is_truth(self, is_entry, make("q" * many)), 1 <= many <= 8)
        for sign in map(chr, range(128)):
            fits = "a" <= sign <= "z"
            for name in (sign, "a" + sign, sign + "z"):
                self.assertEqual(is_truth(self, is_entry, ("let", name, 5)), fits)
                self.assertEqual(is_truth(self, is_entry, ("lay", name, NARROW, 5)), fits)
        check_nothing_fits(self, is_entry, [("lay", name, NARROW, 2) for name in NO_NAMES])
        check_nothing_fits(self, is_entry, [("let", name, 2) for name in NO_NAMES])

    def test_numbers(self):
        for number in NO_NUMBERS:
            check_nothing_fits(self, is_entry, [
                ("lay", "a", NARROW, number), ("let", "a", number), ("snap", number, 1), ("snap", 1, number)])

    def test_wisps(self):
        check_nothing_fits(self, is_entry, [("lay", "a", wisp, 2) for wisp in not_wisps()])

    def test_words(self):
        for word in ("Lay", "lays", "la", "", " lay", "LET", "put", None, True, 0, b"lay", ("lay",), ["lay"],
                     nested(59)):
            check_nothing_fits(self, is_entry, [(word, "a", NARROW, 2), (word, "a", 5), (word, 4, 1)])
        check_nothing_fits(self, is_entry, [("let", "a", NARROW, 2), ("snap", "a", 5), ("let", 4, 1), ("lay", "a", 5),
                                            ("snap", "a", NARROW, 2), ("lay", 4, 1)])

    def test_parts_more_or_fewer(self):
        for entry in (LAY, LET, SNAP):
            check_nothing_fits(self, is_entry, [entry[:many] for many in range(len(entry))])
            check_nothing_fits(self, is_entry, [entry + (more,) for more in (0, None, NARROW, "a", ())])
            check_nothing_fits(self, is_entry, [list(entry), (entry,), {entry}, {entry: 1}, entry[1:] + entry[:1]])

    def test_other_things(self):
        check_nothing_fits(self, is_entry, anything() + [(), "lay", "let a 5", "snap", ("snap",) * 3, ("lay",) * 4])


class IsPage(unittest.TestCase):
    def test_pages(self):
        for thing in ((0, 0, ()), (3, 1, (LAY, LET, SNAP)), (BIG, BIG, (LAY,)), (1, 2, (LAY, LAY))):
            self.assertTrue(is_truth(self, is_page, thing))

    def test_none_to_twenty_entries(self):
        for many in (0, 1, 19, 20, 21, 22):
            self.assertEqual(is_truth(self, is_page, (1, 1, (SNAP,) * many)), many <= 20)

    def test_numbers(self):
        for number in NO_NUMBERS:
            check_nothing_fits(self, is_page, [(number, 1, (LAY,)), (1, number, (LAY,))])

    def test_other_things(self):
        check_nothing_fits(self, is_page, anything() + [
            (), (1,), (1, 1), (1, 1, (LAY,), 0), (1, 1, (LAY,), ()), [1, 1, (LAY,)], (1, 1, [LAY]), (1, 1, LAY),
            (1, 1, None), (1, 1, "lay"), (1, 1, b""), (1, 1, ""), (1, 1, {LAY}), (1, 1, {LAY: 1}), (1, 1, {}),
            (1, 1, []), (1, 1, 0), (1, 1, (None,)), (1, 1, ((),)), (1, 1, (list(LAY),)), (1, 1, (LAY, ("let", "a"))),
            (1, 1, (LAY, ("let", "", 5), SNAP)), ((LAY,), 1, 1), (1, (LAY,), 1), (1, 1, ((LAY,),)), (1, 1, nested(59)),
            (1, 1, (nested(58),)), (nested(59), 1, ()), (1, 1, (("snap", True, 1),)),
        ])


class Counting(unittest.TestCase):
    def test_no_entries(self):
        self.assertEqual([asked_twice(self, function, ()) for function in (counting, breaks_by, names_by, strand_by)],
                         [()] * 4)

    def test_all_count(self):
        self.assertEqual(asked_twice(self, counting, (LAY, LET, SNAP)), (0, 1, 2))
        self.assertEqual(asked_twice(self, counting, (SNAP, LET, LAY)), (0, 1, 2))

    def test_a_name_laid_twice(self):
        entries = (("lay", "b", EVEN, 7), LAY, ("lay", "a", EVEN, 0), ("lay", "b", EVEN, 7))
        self.assertEqual(counting(entries), (0, 1))
        self.assertEqual(asked_twice(self, names_by, entries), ("b", "a"))
        self.assertEqual(asked_twice(self, strand_by, entries), ((EVEN, 7, None), (NARROW, 2, None)))

    def test_a_name_let_twice(self):
        for moments, counted in (((5, 6), 1), ((6, 5), 2), ((5, 5), 1), ((2, 5), 2), ((5, 2), 1), ((1, 0), None)):
            entries = (LAY,) + tuple(("let", "a", moment) for moment in moments)
            self.assertEqual(counting(entries), (0,) if counted is None else (0, counted))
            due = None if counted is None else moments[counted - 1]
            self.assertEqual(strand_by(entries), ((NARROW, 2, due),))

    def test_let_at_its_own_moment_ahead_of_it_and_behind(self):
        for moment, counts in ((0, False), (1, False), (2, False), (3, True), (BIG, True)):
            entries = (LAY, ("let", "a", moment))
            self.assertEqual(counting(entries), (0, 1) if counts else (0,))
            self.assertEqual(strand_by(entries), ((NARROW, 2, moment if counts else None),))

    def test_a_let_by_the_lay_that_counts(self):
        # The second lay doesn't count, so the let at 1 has none to let go.
        self.assertEqual(counting((LAY, ("lay", "a", NARROW, 0), ("let", "a", 1))), (0,))
        self.assertEqual(counting((("lay", "a", NARROW, 0), LAY, ("let", "a", 1))), (0, 2))

    def test_let_but_never_laid(self):
        self.assertEqual(counting((LET, SNAP, ("let", "b", 9))), (1,))
        self.assertEqual(counting((LAY, ("let", "b", 9))), (0,))

    def test_let_ahead_of_its_lay_in_the_tuple(self):
        self.assertEqual(counting((LET, LAY)), (0, 1))
        self.assertEqual(strand_by((LET, LAY)), ((NARROW, 2, 5),))

    def test_two_snaps_of_one_moment(self):
        entries = (("snap", 9, 0), SNAP, ("snap", 4, 7), ("snap", 9, 3))
        self.assertEqual(counting(entries), (0, 1))
        self.assertEqual(asked_twice(self, breaks_by, entries), ((4, 1), (9, 0)))

    def test_breaks_rise(self):
        entries = tuple(("snap", moment, moment % 3) for moment in (9, 2, BIG, 0, 5))
        self.assertEqual(breaks_by(entries), ((0, 0), (2, 2), (5, 2), (9, 0), (BIG, BIG % 3)))
        self.assertTrue(are_breaks(breaks_by(entries)))

    def test_a_break_at_the_moment_of_a_lay_one_ahead_and_one_behind(self):
        for moment, let in ((1, None), (2, None), (3, 3)):
            self.assertEqual(strand_by((LAY, ("snap", moment, 0))), ((NARROW, 2, let),))

    def test_the_least_of_let_and_breaks(self):
        for let, snaps, due in ((5, (4, 6), 4), (5, (5,), 5), (5, (6,), 5), (5, (2, 0), 5), (5, (9, 3), 3)):
            entries = (LAY, ("let", "a", let)) + tuple(("snap", moment, 1) for moment in snaps)
            self.assertEqual(strand_by(entries), ((NARROW, 2, due),))

    def test_sixty_lays_and_twenty_snaps(self):
        names = ["".join(pair) for pair in itertools.product("abcdefgh", repeat=2)][:60]
        lays = tuple(("lay", name, STEEP, number) for number, name in enumerate(names))
        snaps = tuple(("snap", 3 * number, 1) for number in range(20))
        lets = tuple(("let", name, number + 2) for number, name in enumerate(names))
        entries = lays + snaps + lets
        self.assertEqual(counting(entries), tuple(range(140)))
        self.assertEqual(names_by(entries), tuple(names))
        self.assertTrue(is_strand(strand_by(entries)))
        self.assertEqual(len(breaks_by(entries)), 20)
        for moment in (0, 1, 30, 59, 60, 67, 68):
            self.assertEqual(told_at(entries, moment), model_told(entries)[moment])

    def test_all_orders_of_small_entries(self):
        some = (LAY, ("lay", "b", EVEN, 0), LET, ("let", "b", 3), SNAP, ("snap", 4, 0))
        for entries in itertools.permutations(some):
            counted = Counted(entries, 0)
            those = [*counted.lays.values(), *counted.lets.values(), *counted.snaps.values()]
            self.assertEqual(counting(entries), tuple(sorted(entries.index(entry) for entry in those)))
            self.assertEqual(names_by(entries), tuple(counted.lays))

    def test_somewhat_beyond_the_bounds_nothing_is_raised(self):
        entries = tuple(("snap", number, 1) for number in range(25))
        self.assertEqual(len(counting(entries)), 25)
        told_at(entries, 30)


class ToldAt(unittest.TestCase):
    def check(self, entries):
        due = model_told(entries)
        self.assertEqual([told_at(entries, moment) for moment in range(len(due))], due)

    def test_no_entries(self):
        for moment in (0, 1, BIG):
            self.assertEqual(asked_twice(self, told_at, (), moment), ((), (0, 0), False))

    def test_by_hand(self):
        entries = (("lay", "b", NARROW, 0), ("lay", "a", EVEN, 1), ("let", "a", 4), ("snap", 6, 2),
                   ("lay", "c", EVEN, 6))
        self.assertEqual([asked_twice(self, told_at, entries, moment) for moment in range(13)], [
            (("b",), (5, 0), False), (("a", "b"), (5, 4), False), (("a", "b"), (5, 4), False),
            (("a", "b"), (2, 4), False), (("b",), (2, 0), True), (("b",), (2, 0), True)]
            + [(("c",), (0, 4), False)] * 6 + [((), (0, 0), False)])
        self.check(entries)

    def test_names_rise_whatever_the_order(self):
        entries = (("lay", "c", EVEN, 0), ("lay", "ab", EVEN, 0), ("lay", "b", NARROW, 0), ("lay", "a", NARROW, 0))
        self.assertEqual(told_at(entries, 0), (("a", "ab", "b", "c"), (10, 8), False))
        self.assertEqual(told_at(entries[::-1], 0), (("a", "ab", "b", "c"), (10, 8), False))

    def test_a_break_at_the_moment_of_a_lay_one_ahead_and_one_behind(self):
        for moment in (1, 2, 3):
            self.check((LAY, ("snap", moment, 1)))
        self.assertEqual([told_at((LAY, ("snap", 2, 1)), moment)[0] for moment in (1, 2, 3)], [(), ("a",), ("a",)])
        self.assertEqual([told_at((LAY, ("snap", 3, 1)), moment)[0] for moment in (1, 2, 3)], [(), ("a",), ()])

    def test_a_let_and_a_break_at_one_moment(self):
        entries = (LAY, ("let", "a", 4), ("snap", 4, 2))
        self.assertEqual([told_at(entries, moment) for moment in (1, 2, 3, 4, 5)], [
            ((), (0, 0), False), (("a",), (5, 0), True), (("a",), (5, 0), True), ((), (0, 0), False),
            ((), (0, 0), False)])

    def test_a_place_that_a_later_break_cuts_off(self):
        for lap in (0, 1, 2, 5, 6, 9):
            told = [told_at((("snap", 5, lap),), moment)[2] for moment in range(8)]
            self.assertEqual(told, [moment >= 5 - lap and moment < 5 for moment in range(8)])

    def test_a_place_that_was_cut_off_by_an_earlier_one(self):
        # At 4 falls off 3, at 6 fall off 5 and 4, at 7 fall off 6 and 2.
        entries = (("snap", 7, 2), ("snap", 4, 1), ("snap", 6, 2))
        self.assertEqual([told_at(entries, moment)[2] for moment in range(9)],
                         [False, False, True, True, True, True, True, False, False])
        self.check(entries)

    def test_cut_where_nothing_runs(self):
        self.assertEqual(told_at((("snap", 9, 1),), 8), ((), (0, 0), True))
        self.assertEqual(told_at((("snap", 9, 1),), 9), ((), (0, 0), False))

    def test_moment_by_moment(self):
        chance = random.Random(100)
        for _ in range(400):
            self.check(some_entries(chance))

    def test_as_the_strand_and_the_breaks_tell(self):
        chance = random.Random(101)
        for _ in range(100):
            entries = some_entries(chance, 14)
            names, strand = names_by(entries), strand_by(entries)
            self.assertTrue(is_strand(strand) and are_breaks(breaks_by(entries)))
            uncut = 0
            for moment in range(60):
                told = told_at(entries, moment)
                self.assertEqual(told[0], tuple(sorted(names[number] for number in running(strand, moment))))
                self.assertEqual(told[1], by_sorts(strand, moment))
                uncut += not told[2]
            self.assertEqual(uncut, left(60, breaks_by(entries)))

    def test_a_row_drawn_with_breaks_as_entries_tell_it(self):
        chance = random.Random(102)
        for _ in range(100):
            row, low, breaks = some_row(chance), chance.randint(1, 6), some_breaks(chance)
            moments = drawn_with(row, low, breaks)
            entries = tuple(("snap",) + pair for pair in breaks) + tuple(
                ("lay", "abcdef"[number], wisp, moment) for number, (wisp, moment) in enumerate(zip(row, moments)))
            self.assertEqual(breaks_by(entries), breaks)
            self.assertEqual(strand_by(entries), with_breaks(row, moments, breaks))
            end = lasting_with(row, low, breaks)
            self.assertEqual([sum(told_at(entries, moment)[1]) < low for moment in range(end + 1)],
            [False] * end + [True])

    def test_forty_figures(self):
        entries = (("lay", "a", (0, ((BIG, BIG),)), BIG - 5), ("lay", "b", (0, ((BIG, 1), (1, BIG))), 0),
                   ("let", "b", BIG), ("snap", BIG - 2, BIG - 4), ("let", "b", BIG - 1))
        self.assertEqual(counting(entries), (0, 1, 3, 4))
        self.assertEqual(breaks_by(entries), ((BIG - 2, BIG - 4),))
        self.assertEqual([laid[1:] for laid in strand_by(entries)], [(BIG - 5, BIG - 2), (0, BIG - 2)])
        told = [told_at(entries, moment) for moment in (0, 1, 2, BIG - 6, BIG - 5, BIG - 3, BIG - 2, BIG)]
        self.assertEqual(told, [
            (("b",), (BIG, 0), False), (("b",), (1, 0), False), (("b",), (1, 0), True), (("b",), (1, 0), True),
            (("a", "b"), (BIG + 1, 0), True), (("a", "b"), (BIG + 1, 0), True), ((), (0, 0), False),
            ((), (0, 0), False)])

    def test_lets_of_forty_figures(self):
        entries = (("lay", "a", (1, ((2, BIG),)), BIG - 9), ("let", "a", BIG), ("let", "a", BIG - 9))
        self.assertEqual(strand_by(entries), (((1, ((2, BIG),)), BIG - 9, BIG),))
        self.assertEqual([told_at(entries, moment)[0] for moment in (BIG - 10, BIG - 9, BIG - 1, BIG)],
                         [(), ("a",), ("a",), ()])


if __name__ == "__main__":
    unittest.main()
