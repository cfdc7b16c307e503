"""Levels: all states that a basket can come to, place by place, each with the fewest laid."""

from evenstrand.baskets import first_state, steps_of


def next_level(basket, frame, level, room):
    """The states behind those of a level, each with the fewest laid in all; given up where there is no room for all."""
    fewest = {}
    for state, laid in level:
        for coming, more in steps_of(basket, frame, state):
            fewest[coming] = min(laid + more, fewest.get(coming, laid + more))
        if len(fewest) > room:
            break
    return tuple(sorted(fewest.items()))


def levels_of(basket, frame, length, most):
    """("levels", levels) from 0 to a length, ("never", place) of the first that can't be drawn, or ("open", None)."""
    levels = [((first_state(basket), 0),)]
    room = most - 1
    for place in range(length):
        level = next_level(basket, frame, levels[-1], room)
        if not level:
            return ("never", place)
        room -= len(level)
        if room < 0:
            return ("open", None)
        levels.append(level)
    return ("levels", tuple(levels))
