"""A book of pages that come late, or are put right, and what they tell together."""

from evenstrand.breaking import left, with_run
from evenstrand.entries import breaks_by, is_page, telling_of, told_at, told_by
from evenstrand.errors import NoPage, Twice
from evenstrand.stretching import changes_of


def turns_of(telling):
    """The rising moments from 0 to the end at which another thing is told than just ahead of them."""
    # At each change of a strand names or thicknesses become others, and each run cut off is a longest one:
    # so from each turn to the next the same is told, and from two neighbours something unlike.
    names, strand, runs = telling
    return sorted(set(list(changes_of(strand)) + [moment for run in runs for moment in run]))


def runs_otherwise(ahead, behind):
    """The longest runs (start, end) of moments of which one telling tells otherwise than another."""
    turns = sorted(set(turns_of(ahead) + turns_of(behind)))
    runs = []
    for start, end in zip(turns, turns[1:]):
        if told_by(ahead, start) != told_by(behind, start):
            runs = with_run(runs, start, end)
    return tuple(runs)


class Book:
    """Pages, of each number that of the greatest version counting."""

    def __init__(self):
        # The entries of all pages ever put, by (number, version): a version that no more counts can't be put otherwise.
        self.kept = {}

    def put(self, page):
        """Puts a page; the longest runs (start, end) of moments of which the book then tells otherwise."""
        if not is_page(page):
            raise NoPage("what is put is no page")
        number, version, entries = page
        if self.kept.get((number, version), entries) != entries:
            raise Twice("a page of this number and version was put with other entries")
        ahead = telling_of(self.entries())
        self.kept[(number, version)] = entries
        return runs_otherwise(ahead, telling_of(self.entries()))

    def pages(self):
        """The rising tuple of (number, version) of the pages that count."""
        greatest = {}
        for number, version in self.kept:
            greatest[number] = max(version, greatest.get(number, version))
        return tuple(sorted(greatest.items()))

    def entries(self):
        """The entries of the pages that count, page by page as numbers rise."""
        return tuple([entry for page in self.pages() for entry in self.kept[page]])

    def told(self, moment):
        """What is told of a moment: (names, sorts, cut)."""
        return told_at(self.entries(), moment)

    def length(self, moment):
        """How many places are left at a moment, behind its break, ahead of its own place."""
        return left(moment, breaks_by(self.entries()))

    def end(self):
        """The least moment from which on none runs and none is cut off."""
        return turns_of(telling_of(self.entries()))[-1]

    def stretches(self):
        """The tuple of (start, end, names, sorts, cut) from 0 to the end."""
        telling = telling_of(self.entries())
        turns = turns_of(telling)
        return tuple([(start, end) + told_by(telling, start) for start, end in zip(turns, turns[1:])])
