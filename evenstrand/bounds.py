"""Where a strand keeps within bounds, and where it doesn't."""

from evenstrand.strands import end_of
from evenstrand.stretching import stretches


def levels_between(strand, a, b):
    """The runs (start, end, thickness) of the places from a on, below b, behind the strand's end too."""
    levels = [(start, end, sum(sorts)) for start, end, numbers, sorts in stretches(strand)]
    levels.append((end_of(strand), b, 0))
    within = [(max(start, a), min(end, b), thickness) for start, end, thickness in levels]
    return [level for level in within if level[0] < level[1]]


def word_of(thickness, low, high):
    """What is wrong with a thickness, or None."""
    if thickness < low:
        return "thin"
    if thickness > high:
        return "thick"
    return None


def off(strand, low, high, a, b):
    """The longest runs (start, end, word) of places from a on, below b, that are too thin or too thick."""
    runs = []
    for start, end, thickness in levels_between(strand, a, b):
        word = word_of(thickness, low, high)
        if word is None:
            continue
        if runs and runs[-1][1:] == (start, word):
            runs[-1] = (runs[-1][0], end, word)
        else:
            runs.append((start, end, word))
    return tuple(runs)


def first_off(strand, low, high, a, b):
    """None, or (place, word, thickness) of the first place from a on, below b, that is too thin or too thick."""
    for start, end, thickness in levels_between(strand, a, b):
        word = word_of(thickness, low, high)
        if word is not None:
            return (start, word, thickness)
    return None


def thinnest(strand, a, b):
    """(thickness, the first place that has it) where the places from a on, below b, are thinnest."""
    levels = levels_between(strand, a, b)
    return min([(thickness, start) for start, end, thickness in levels], default=None)


def thickest(strand, a, b):
    """(thickness, the first place that has it) where the places from a on, below b, are thickest."""
    most = None
    for start, end, thickness in levels_between(strand, a, b):
        if most is None or thickness > most[0]:
            most = (thickness, start)
    return most


def lasts(strand, low, now=0):
    """The first place from now on at which a strand is thinner than low."""
    for start, end, numbers, sorts in stretches(strand):
        if now < end and sum(sorts) < low:
            return max(start, now)
    return max(end_of(strand), now)
