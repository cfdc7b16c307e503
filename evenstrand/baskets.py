"""Baskets of wisps, free to be laid in any order, and the steps of drawing from them."""

from evenstrand.kinds import is_tuple, is_whole
from evenstrand.wisps import is_wisp, length_of, thick_at

MOST_KINDS = 4
MOST_PLACES = 8
MOST_OF_A_KIND = 9
MOST_IN_HAND = 3


def is_many(thing):
    """Whether a thing tells how many of a kind there are; None is as many as wanted."""
    return thing is None or (is_whole(thing, 0) and thing <= MOST_OF_A_KIND)


def is_kind(thing):
    """Whether a thing is a kind (wisp, many)."""
    if not is_tuple(thing, 2, 2):
        return False
    wisp, many = thing
    return is_wisp(wisp) and length_of(wisp) <= MOST_PLACES and is_many(many)


def is_basket(thing):
    """Whether a thing, of anything, is a basket."""
    return is_tuple(thing, 1, MOST_KINDS) and all([is_kind(kind) for kind in thing])


def is_frame(thing):
    """Whether a thing, of anything, is a frame (low, high, hand)."""
    if not is_tuple(thing, 3, 3):
        return False
    low, high, hand = thing
    return is_whole(low, 1) and is_whole(high, low) and is_whole(hand, 1) and hand <= MOST_IN_HAND


def first_state(basket):
    """The state ahead of all drawing: nothing runs, all are left."""
    return ((), tuple([many for wisp, many in basket]))


def kept_from(ages, hand):
    """What may go on of those that run, at most as many as the hand holds."""
    chosen = [()]
    for pair in ages:
        chosen = chosen + [some + (pair,) for some in chosen if len(some) < hand]
    return chosen


def laid_from(manys, room):
    """The kinds that may be laid together of so many of each, at most as many as there is room for."""
    chosen = [()]
    for kind, many in enumerate(manys):
        most = room if many is None else min(many, room)
        chosen = [some + (kind,) * more for some in chosen for more in range(min(most, room - len(some)) + 1)]
    return chosen


def thickness_of(basket, ages):
    """How thick wisps of these kinds and ages are together."""
    return sum([thick_at(basket[kind][0], age) for kind, age in ages])


def aged(basket, ages):
    """The ages one place later, without those that have come to their full length."""
    return tuple(sorted([(kind, age + 1) for kind, age in ages if age + 1 < length_of(basket[kind][0])]))


def manys_behind(manys, laid):
    """How many of each kind are left behind a laying."""
    return tuple([None if many is None else many - laid.count(kind) for kind, many in enumerate(manys)])


def choices_of(basket, frame, state):
    """All that may be done to draw a place from a state: (what is kept, the kinds laid, the state that comes of it)."""
    low, high, hand = frame
    ages, manys = state
    choices = []
    for kept in kept_from(ages, hand):
        for laid in laid_from(manys, hand - len(kept)):
            running = kept + tuple([(kind, 0) for kind in laid])
            if low <= thickness_of(basket, running) <= high:
                choices.append((kept, laid, (aged(basket, running), manys_behind(manys, laid))))
    return choices


def steps_of(basket, frame, state):
    """The states that may come of one by drawing a place, each with the fewest laid that lead to it."""
    fewest = {}
    for kept, laid, coming in choices_of(basket, frame, state):
        fewest[coming] = min(len(laid), fewest.get(coming, len(laid)))
    return tuple(sorted(fewest.items()))
