"""Papers of ways, levels and heights looked at, whoever made them."""

from evenstrand.baskets import first_state, is_basket, is_frame, steps_of
from evenstrand.kinds import is_tuple, is_whole
from evenstrand.wisps import length_of


def is_age(basket, thing):
    """Whether a thing is (kind, age) of a wisp of the basket that runs on."""
    if not is_tuple(thing, 2, 2):
        return False
    kind, age = thing
    if not is_whole(kind, 0) or kind >= len(basket):
        return False
    return is_whole(age, 1) and age < length_of(basket[kind][0])


def is_left(many, thing):
    """Whether so many may be left of a kind of which there are many, None being as many as wanted."""
    if many is None:
        return thing is None
    return is_whole(thing, 0) and thing <= many


def are_left(basket, thing):
    """Whether a thing tells how many may be left of each kind of a basket."""
    if not is_tuple(thing, len(basket), len(basket)):
        return False
    return all([is_left(many, left) for (wisp, many), left in zip(basket, thing)])


def is_state(basket, frame, thing):
    """Whether a thing, of anything, is a state of a basket."""
    if not is_tuple(thing, 2, 2):
        return False
    ages, manys = thing
    if not is_tuple(ages, 0, frame[2]) or not all([is_age(basket, pair) for pair in ages]):
        return False
    return list(ages) == sorted(ages) and are_left(basket, manys)


def are_given(basket, frame):
    """Whether these are a basket and a frame: of other things no paper shows anything."""
    return is_basket(basket) and is_frame(frame)


def leads_to(basket, frame, state, coming):
    """Whether a step leads from a state to another."""
    return coming in [other for other, laid in steps_of(basket, frame, state)]


def shows_way(basket, frame, thing):
    """Whether a thing, of anything, is a way: states from the first one on, each next one of a step."""
    if not are_given(basket, frame) or not isinstance(thing, tuple) or len(thing) == 0:
        return False
    # A truth counts as a number to Python, so first all must be states.
    if not all([is_state(basket, frame, state) for state in thing]) or thing[0] != first_state(basket):
        return False
    return all([leads_to(basket, frame, state, coming) for state, coming in zip(thing, thing[1:])])


def is_numbered(basket, frame, thing):
    """Whether a thing is (state, number)."""
    return is_tuple(thing, 2, 2) and is_state(basket, frame, thing[0]) and is_whole(thing[1], 0)


def numbers_by(basket, frame, thing):
    """The numbers of a tuple of (state, number), by states; None where it is none, or a state stands there twice."""
    if not isinstance(thing, tuple) or not all([is_numbered(basket, frame, pair) for pair in thing]):
        return None
    numbers = {state: number for state, number in thing}
    return numbers if len(numbers) == len(thing) else None


def follows(basket, frame, level, behind):
    """Whether all steps from a level lead to what stands in the one behind it, with no more laid than they lay."""
    for state in level:
        for coming, more in steps_of(basket, frame, state):
            if coming not in behind or behind[coming] > level[state] + more:
                return False
    return True


def shows_fewest(basket, frame, length, laid, thing):
    """Whether a thing, of anything, shows by levels that a length can't be drawn with fewer laid."""
    if not are_given(basket, frame) or not is_whole(length, 0) or not is_whole(laid, 0):
        return False
    if not is_tuple(thing, length + 1, length + 1):
        return False
    levels = [numbers_by(basket, frame, level) for level in thing]
    if None in levels or levels[0].get(first_state(basket)) != 0:
        return False
    if not all([follows(basket, frame, level, behind) for level, behind in zip(levels, levels[1:])]):
        return False
    return all([number >= laid for number in levels[-1].values()])


def falls(basket, frame, heights):
    """Whether all steps lead to states that are there, with a lesser height."""
    for state in heights:
        for coming, laid in steps_of(basket, frame, state):
            if coming not in heights or heights[coming] >= heights[state]:
                return False
    return True


def shows_longest(basket, frame, length, thing):
    """Whether a thing, of anything, shows by heights that no strand is longer than a length."""
    if not are_given(basket, frame) or not is_whole(length, 0):
        return False
    heights = numbers_by(basket, frame, thing)
    if heights is None or first_state(basket) not in heights:
        return False
    return heights[first_state(basket)] <= length and falls(basket, frame, heights)
