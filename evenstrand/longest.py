"""The longest strand that a basket can give, and the heights that bar a longer one."""

from evenstrand.baskets import first_state, steps_of


def states_from(basket, frame, most):
    """By each state come to from the first one the states that come of it; None where they are more than most."""
    found = {first_state(basket): []}
    waiting = [first_state(basket)]
    while waiting:
        state = waiting.pop()
        onward = [coming for coming, laid in steps_of(basket, frame, state)]
        found[state] = onward
        for coming in onward:
            if coming not in found:
                found[coming] = []
                waiting.append(coming)
        if len(found) > most:
            return None
    return found


def leading_to(found):
    """By each state the states of which it comes."""
    leading = {state: [] for state in found}
    for state in found:
        for coming in found[state]:
            leading[coming].append(state)
    return leading


def heights_by(found):
    """The heights by states; those from which one can go on for ever have none."""
    leading = leading_to(found)
    missing = {state: len(found[state]) for state in found}
    ready = [state for state in found if missing[state] == 0]
    heights = {}
    while ready:
        state = ready.pop()
        heights[state] = max([heights[coming] + 1 for coming in found[state]], default=0)
        for ahead in leading[state]:
            missing[ahead] -= 1
            if missing[ahead] == 0:
                ready.append(ahead)
    return heights


def way_round(found, heights, first):
    """("endless", way, start) of a way that comes back to its state at start."""
    way = [first]
    starts = {}
    # Each state without a height has one behind it, so the way goes on until it meets itself.
    while way[-1] not in starts:
        starts[way[-1]] = len(way) - 1
        onward = [coming for coming in found[way[-1]] if coming not in heights]
        way.append(onward[0])
    return ("endless", tuple(way), starts[way[-1]])


def way_down(found, heights, first):
    """("longest", length, way) of a way on which the height falls by one from each state to the next."""
    way = [first]
    while heights[way[-1]] > 0:
        way.append(max(found[way[-1]], key=lambda coming: heights[coming]))
    return ("longest", heights[first], tuple(way))


def longest(basket, frame, most):
    """("longest", length, way) of the most places, ("endless", way, start), or ("open", None)."""
    found = states_from(basket, frame, most)
    if found is None:
        return ("open", None)
    first = first_state(basket)
    heights = heights_by(found)
    # What is endless behind some state is endless from the first one on, too.
    return way_down(found, heights, first) if first in heights else way_round(found, heights, first)


def heights_of(basket, frame, most):
    """The rising tuple of (state, height) of all states come to; None where it is open or endless."""
    found = states_from(basket, frame, most)
    if found is None:
        return None
    heights = heights_by(found)
    return tuple(sorted(heights.items())) if len(heights) == len(found) else None
