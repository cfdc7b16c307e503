"""Two rows blended into one by mixtures."""

from evenstrand.mixing import sort_by
from evenstrand.rows import MOST_WISPS


def blended(first, second, mixtures):
    """The row of the picks' wisps, to the first pick whose row has none left, or to as many as a row may have."""
    rows = (first, second)
    used = [0, 0]
    blend = []
    for k in range(MOST_WISPS):
        sort = sort_by(mixtures, k)
        if used[sort] == len(rows[sort]):
            break
        blend.append(rows[sort][used[sort]])
        used[sort] += 1
    return tuple(blend)
