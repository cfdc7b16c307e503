"""Breaks: what they cut off, and which places are left."""

from evenstrand.kinds import do_rise, is_tuple, is_whole

MOST_BREAKS = 20


def is_break(thing):
    """Whether a thing is a break (moment, lap)."""
    return is_tuple(thing, 2, 2) and is_whole(thing[0], 0) and is_whole(thing[1], 0)


def are_breaks(thing):
    """Whether a thing, of anything, is breaks, their moments rising, unlike."""
    if not is_tuple(thing, 0, MOST_BREAKS) or not all([is_break(pair) for pair in thing]):
        return False
    return do_rise([moment for moment, lap in thing])


def spans_of(breaks):
    """The spans (start, end, many) from break to break, many left at start; the last one has no end, None."""
    spans = []
    start = many = 0
    for moment, lap in breaks:
        spans.append((start, moment, many))
        many = max(0, many + moment - start - lap)
        start = moment
    spans.append((start, None, many))
    return spans


def left(moment, breaks):
    """How many places are left at a moment, behind its break, ahead of its own place."""
    for start, end, many in spans_of(breaks):
        if end is None or moment < end:
            return many + moment - start


def first_left(many, breaks):
    """The first moment at which so many places are left."""
    # What is left grows from 0 on one by one, so each number is come to once at least.
    for start, end, fewest in spans_of(breaks):
        moment = start + many - fewest
        if moment >= start and (end is None or moment < end):
            return moment


def with_run(runs, start, end):
    """Runs with one more behind them, joined to the last one where this ends at its start."""
    if start >= end:
        return runs
    if runs and runs[-1][1] == start:
        return runs[:-1] + [(runs[-1][0], end)]
    return runs + [(start, end)]


def without_last(runs, lap):
    """Runs without their last lap moments."""
    while runs and lap > 0:
        start, end = runs[-1]
        runs = with_run(runs[:-1], start, end - lap)
        lap -= end - start
    return runs


def kept_moments(moment, breaks):
    """The longest runs (start, end) of moments below a moment whose places are left then."""
    runs = []
    start = 0
    for at, lap in breaks:
        if at <= moment:
            runs = without_last(with_run(runs, start, at), lap)
            start = at
    return tuple(with_run(runs, start, moment))


def moment_of(place, moment, breaks):
    """The moment whose place is the place-th of those left at a moment."""
    for start, end in kept_moments(moment, breaks):
        if place < end - start:
            return start + place
        place -= end - start
