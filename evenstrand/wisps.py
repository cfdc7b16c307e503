"""Wisps: (sort, steps), each of which thins along its length by steps (thick, long)."""

from evenstrand.kinds import is_tuple, is_whole

MOST_STEPS = 8


def is_step(thing):
    """Whether a thing is a step (thick, long)."""
    return is_tuple(thing, 2, 2) and is_whole(thing[0], 1) and is_whole(thing[1], 1)


def are_steps(thing):
    """Whether a thing is the steps of a wisp, thick falling from each to the next."""
    if not is_tuple(thing, 1, MOST_STEPS) or not all([is_step(step) for step in thing]):
        return False
    return all([ahead[0] > step[0] for ahead, step in zip(thing, thing[1:])])


def is_wisp(thing):
    """Whether a thing, of anything, is a wisp."""
    if not is_tuple(thing, 2, 2):
        return False
    sort, steps = thing
    return is_whole(sort, 0) and sort <= 1 and are_steps(steps)


def length_of(wisp):
    """Of how many places a wisp is."""
    return sum([long for thickness, long in wisp[1]])


def weight_of(wisp):
    """The thicknesses of a wisp at all its places together."""
    return sum([thickness * long for thickness, long in wisp[1]])


def thick_at(wisp, k):
    """How thick a wisp is at its place k; 0 behind all its steps."""
    for thickness, long in wisp[1]:
        if k < long:
            return thickness
        k -= long
    return 0


def head(wisp, k):
    """The wisp of the first k places."""
    sort, steps = wisp
    kept = []
    for thickness, long in steps:
        if k > 0:
            kept.append((thickness, min(long, k)))
        k -= long
    return (sort, tuple(kept))


def tail(wisp, k):
    """The wisp of the places behind the first k."""
    sort, steps = wisp
    kept = []
    for thickness, long in steps:
        if k < long:
            kept.append((thickness, long - max(k, 0)))
        k -= long
    return (sort, tuple(kept))
