"""Rows drawn late: each next wisp at the first place that would be too thin without it."""

from evenstrand.bounds import lasts
from evenstrand.rows import laid_out
from evenstrand.strands import thicknesses_at


def strand_with(row, places, strand):
    """A strand that is there already, None as without wisps, and the row's wisps that have a place."""
    return (() if strand is None else strand) + laid_out(row, places)


def drawn(row, low, strand=None, now=0):
    """The schedule by which each next wisp is laid at the first place that is too thin without it."""
    places = ()
    for number in range(len(row)):
        places += (lasts(strand_with(row[:number], places, strand), low, now),)
    return places


def lasting(row, low, strand=None, now=0):
    """The first place from now on that is too thin though the whole row is drawn."""
    return lasts(strand_with(row, drawn(row, low, strand, now), strand), low, now)


def drawn_to(row, low, length):
    """("drawn", places) of those laid below a length, or ("thin", place, sums) where the row is over ahead of it."""
    places = drawn(row, low)
    strand = laid_out(row, places)
    end = lasts(strand, low)
    if end < length:
        return ("thin", end, tuple(thicknesses_at(strand, end)))
    return ("drawn", tuple([place for place in places if place < length]))
