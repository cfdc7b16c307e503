"""Rows of wisps, and schedules by which they are laid."""

from evenstrand.kinds import is_tuple, is_whole
from evenstrand.wisps import is_wisp, thick_at

MOST_WISPS = 60


def is_row(thing):
    """Whether a thing, of anything, is a row of wisps."""
    return is_tuple(thing, 0, MOST_WISPS) and all([is_wisp(wisp) for wisp in thing])


def is_schedule(row, thing):
    """Whether a thing, of anything, is a schedule of a row: a place for each wisp, none below the one ahead."""
    if not is_row(row) or not is_tuple(thing, len(row), len(row)):
        return False
    least = 0
    for place in thing:
        if not is_whole(place, least):
            return False
        least = place
    return True


def laid_out(row, places):
    """The strand of a row's wisps laid at these places."""
    return tuple([(wisp, at, None) for wisp, at in zip(row, places)])


def is_wide(row, low, high):
    """Whether each wisp can be laid where it is only just too thin without it, and never be too thick."""
    return all([low - 1 + thick_at(wisp, 0) <= high for wisp in row])
