"""Strands: tuples of laid wisps (wisp, at, let)."""

from evenstrand.kinds import is_tuple, is_whole
from evenstrand.wisps import is_wisp, thick_at

MOST_LAID = 60


def is_laid(thing):
    """Whether a thing is a laid wisp."""
    if not is_tuple(thing, 3, 3):
        return False
    wisp, at, let = thing
    return is_wisp(wisp) and is_whole(at, 0) and (let is None or is_whole(let, at + 1))


def is_strand(thing):
    """Whether a thing, of anything, is a strand."""
    return is_tuple(thing, 0, MOST_LAID) and all([is_laid(laid) for laid in thing])


def thick_of(laid, p):
    """How thick a laid wisp is at a place; 0 where it doesn't run."""
    wisp, at, let = laid
    if p < at or (let is not None and p >= let):
        return 0
    return thick_at(wisp, p - at)


def parts_of(laid):
    """The parts (start, end, thickness) in which a laid wisp runs, one for each step it comes to."""
    wisp, start, let = laid
    parts = []
    for thickness, long in wisp[1]:
        end = start + long if let is None else min(start + long, let)
        if start < end:
            parts.append((start, end, thickness))
        start = end
    return parts


def thicknesses_at(strand, p):
    """How thick each laid wisp is at a place."""
    return [thick_of(laid, p) for laid in strand]


def numbers_of(thicknesses):
    """The rising tuple of the numbers of those that run: each step is at least 1 thick."""
    return tuple([number for number, thickness in enumerate(thicknesses) if thickness > 0])


def running(strand, p):
    """The rising tuple of the numbers of the laid wisps that run at a place."""
    return numbers_of(thicknesses_at(strand, p))


def sorts_of(strand, thicknesses):
    """How thick those of sort 0 are together, and those of sort 1, each laid wisp so thick as told."""
    first = second = 0
    for laid, thickness in zip(strand, thicknesses):
        if laid[0][0] == 0:
            first += thickness
        else:
            second += thickness
    return (first, second)


def by_sorts(strand, p):
    """How thick those of sort 0 are together at a place, and those of sort 1."""
    return sorts_of(strand, thicknesses_at(strand, p))


def thick(strand, p):
    """How thick all that run at a place are together."""
    return sum(thicknesses_at(strand, p))


def end_of(strand):
    """The least place from which on none runs."""
    return max([end for laid in strand for start, end, thickness in parts_of(laid)], default=0)


def weight_between(strand, a, b):
    """The thicknesses at the places from a on, below b, together."""
    weight = 0
    for laid in strand:
        for start, end, thickness in parts_of(laid):
            weight += thickness * max(0, min(end, b) - max(start, a))
    return weight
