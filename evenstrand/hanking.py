"""A strand wound into hanks of a told weight."""

from evenstrand.stretching import stretches


def hanks(strand, weight, most):
    """The ends of the first hanks of a strand, at most so many of them."""
    ends = []
    due = weight
    for start, end, numbers, sorts in stretches(strand):
        thickness = sum(sorts)
        if thickness == 0:
            continue
        # Rounded up: a hank ends at the least place at which it weighs enough.
        while len(ends) < most and thickness * (end - start) >= due:
            start += -(-due // thickness)
            ends.append(start)
            due = weight
        due -= thickness * (end - start)
    return tuple(ends)
