"""The fewest wisps of a basket for a length: a way that lays no more, and its strand."""

from evenstrand.baskets import choices_of, steps_of
from evenstrand.levels import levels_of
from evenstrand.wisps import length_of


def pair_ahead(basket, frame, level, pair):
    """A (state, laid) of a level from which a step leads to a pair of the next one, with just so many laid."""
    state, laid = pair
    for ahead, number in level:
        for coming, more in steps_of(basket, frame, ahead):
            if coming == state and number + more == laid:
                return (ahead, number)


def way_back(basket, frame, levels, pair):
    """The states of a way through levels, from the first one to a pair of the last one."""
    way = [pair[0]]
    for level in reversed(levels[:-1]):
        pair = pair_ahead(basket, frame, level, pair)
        way.append(pair[0])
    return tuple(way[::-1])


def fewest(basket, frame, length, most):
    """("fewest", laid, way) for a length, ("never", place) of the first that can't be drawn, or ("open", None)."""
    word, told = levels_of(basket, frame, length, most)
    if word != "levels":
        return (word, told)
    state, laid = min(told[-1], key=lambda pair: pair[1])
    return ("fewest", laid, way_back(basket, frame, told, (state, laid)))


def choice_to(basket, frame, state, coming):
    """What is kept and which kinds are laid, as few as can be, to come from a state to the next one."""
    choices = [(kept, laid) for kept, laid, other in choices_of(basket, frame, state) if other == coming]
    return min(choices, key=lambda choice: len(choice[1]))


def let_others(basket, laid, place, kept):
    """The laid (kind, at, let), those let go at a place that run there, but aren't kept."""
    staying = list(kept)
    told = []
    for kind, at, let in laid:
        age = place - at
        runs = let is None and age < length_of(basket[kind][0])
        if runs and (kind, age) in staying:
            # Of several of one kind and age only so many stay as are kept.
            staying.remove((kind, age))
        elif runs:
            let = place
        told.append((kind, at, let))
    return told


def strand_of(basket, frame, way):
    """A strand that at each place has running what a step of a way lets run, with as few laid."""
    laid = []
    for place, (state, coming) in enumerate(zip(way, way[1:])):
        kept, kinds = choice_to(basket, frame, state, coming)
        laid = let_others(basket, laid, place, kept) + [(kind, place, None) for kind in kinds]
    return tuple([(basket[kind][0], at, let) for kind, at, let in laid])
