"""Mixtures of two sorts, and the picks by which they are drawn evenly."""

from evenstrand.kinds import do_rise, is_tuple, is_whole

MOST_PARTS = 8


def taken(mixture, k):
    """How many of the picks below k are of sort 0, and how many of sort 1."""
    m, n = mixture
    # Each pick adds m of m + n parts, so at most one whole: the picks of sort 0 are the wholes come to.
    # Two noughts are no mixture, but no error is told of them either.
    first = k * m // max(m + n, 1)
    return (first, k - first)


def sort_of(mixture, k):
    """Of which sort pick k of a mixture is."""
    return 0 if taken(mixture, k + 1)[0] > taken(mixture, k)[0] else 1


def is_part(thing):
    """Whether a thing is a part (start, m, n) of mixtures."""
    if not is_tuple(thing, 3, 3) or not all([is_whole(number, 0) for number in thing]):
        return False
    return thing[1] + thing[2] > 0


def are_mixtures(thing):
    """Whether a thing, of anything, is mixtures: parts, each of which goes from its start on."""
    if not is_tuple(thing, 1, MOST_PARTS) or not all([is_part(part) for part in thing]):
        return False
    return thing[0][0] == 0 and do_rise([start for start, m, n in thing])


def sort_by(mixtures, k):
    """Of which sort pick k is, by the last part that starts at it or ahead of it."""
    sort = 1
    for start, m, n in mixtures:
        if start <= k:
            sort = sort_of((m, n), k - start)
    return sort
