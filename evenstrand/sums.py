"""Papers of sums: that a row can't be kept beyond a place, whoever made them."""

from evenstrand.kinds import is_whole
from evenstrand.rows import is_schedule, laid_out
from evenstrand.strands import thick


def shows_thin(row, low, place, thing):
    """Whether a thing, of anything, shows that each schedule of a row is too thin at a place or ahead of it."""
    if not is_schedule(row, thing) or not is_whole(low, 1) or not is_whole(place, 0):
        return False
    strand = laid_out(row, thing)
    late = [at <= place and thick(strand[:number], at) < low for number, at in enumerate(thing)]
    return all(late) and thick(strand, place) < low
