"""The stretches of a strand: where the same run, equally thick."""

from evenstrand.strands import numbers_of, parts_of, sorts_of


def changes_of(strand):
    """By each place at which something begins, changes or is over: what is how thick from there on."""
    # The first stretch starts at 0, whether or not anything begins there.
    changes = {0: []}
    for number, laid in enumerate(strand):
        for start, end, thickness in parts_of(laid):
            # Where a next step starts at this end, it is told behind the 0, and so it counts.
            changes.setdefault(start, []).append((number, thickness))
            changes.setdefault(end, []).append((number, 0))
    return changes


def stretches(strand):
    """The stretches (start, end, numbers, sorts) of a strand, from 0 to its end."""
    changes = changes_of(strand)
    places = sorted(changes)
    thicknesses = [0] * len(strand)
    told = []
    # Steps fall, so at each change either the numbers or the sorts become others: none need joining.
    for start, end in zip(places, places[1:]):
        for number, thickness in changes[start]:
            thicknesses[number] = thickness
        told.append((start, end, numbers_of(thicknesses), sorts_of(strand, thicknesses)))
    return tuple(told)
