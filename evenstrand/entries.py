"""Entries and pages: what is laid, let go and broken, moment by moment."""

from evenstrand.breaking import kept_moments
from evenstrand.broken import next_break
from evenstrand.kinds import is_tuple, is_whole
from evenstrand.strands import by_sorts, running
from evenstrand.wisps import is_wisp

LETTERS = "abcdefghijklmnopqrstuvwxyz"
MOST_LETTERS = 8
MOST_ENTRIES = 20


def is_name(thing):
    """Whether a thing is a name of small letters."""
    if not isinstance(thing, str) or not 1 <= len(thing) <= MOST_LETTERS:
        return False
    return all([sign in LETTERS for sign in thing])


def is_entry(thing):
    """Whether a thing, of anything, is an entry."""
    if not is_tuple(thing, 3, 4) or not isinstance(thing[0], str):
        return False
    if thing[0] == "lay" and len(thing) == 4:
        return is_name(thing[1]) and is_wisp(thing[2]) and is_whole(thing[3], 0)
    if thing[0] == "let" and len(thing) == 3:
        return is_name(thing[1]) and is_whole(thing[2], 0)
    return thing[0] == "snap" and len(thing) == 3 and is_whole(thing[1], 0) and is_whole(thing[2], 0)


def is_page(thing):
    """Whether a thing, of anything, is a page (number, version, entries)."""
    if not is_tuple(thing, 3, 3) or not is_whole(thing[0], 0) or not is_whole(thing[1], 0):
        return False
    return is_tuple(thing[2], 0, MOST_ENTRIES) and all([is_entry(entry) for entry in thing[2]])


def firsts_of(entries, word):
    """By what stands behind a word, a name or a moment, the number of the first such entry, in their order."""
    firsts = {}
    for number, entry in enumerate(entries):
        if entry[0] == word:
            firsts.setdefault(entry[1], number)
    return firsts


def lets_of(entries):
    """By each name that is laid and let go behind that the number of its "let" that counts."""
    lays = firsts_of(entries, "lay")
    lets = {}
    for number, entry in enumerate(entries):
        if entry[0] == "let" and entry[1] in lays and entry[2] > entries[lays[entry[1]]][3]:
            # Only a lesser moment takes another's place, so of those alike the first one stays.
            if entry[1] not in lets or entry[2] < entries[lets[entry[1]]][2]:
                lets[entry[1]] = number
    return lets


def counting(entries):
    """The rising tuple of the numbers of the entries that count."""
    counted = [firsts_of(entries, "lay"), lets_of(entries), firsts_of(entries, "snap")]
    return tuple(sorted([number for numbers in counted for number in numbers.values()]))


def breaks_by(entries):
    """The breaks of the snaps that count."""
    return tuple(sorted([entries[number][1:] for number in firsts_of(entries, "snap").values()]))


def names_by(entries):
    """The names laid, in the order of the entries."""
    return tuple(firsts_of(entries, "lay"))


def strand_by(entries):
    """The strand by moments of the wisps laid, let go by their "let" or by a break, whichever is first."""
    lays, lets, breaks = firsts_of(entries, "lay"), lets_of(entries), breaks_by(entries)
    strand = []
    for name in lays:
        wisp, moment = entries[lays[name]][2:]
        ends = [next_break(moment, breaks), entries[lets[name]][2] if name in lets else None]
        strand.append((wisp, moment, min([end for end in ends if end is not None], default=None)))
    return tuple(strand)


def cut_runs(breaks):
    """The longest runs (start, end) of moments whose places are cut off at last."""
    last = breaks[-1][0] if breaks else 0
    runs = []
    start = 0
    # What is kept at the last break is kept for ever: between these runs, and ahead of it, all is cut off.
    for kept_start, kept_end in kept_moments(last, breaks) + ((last, last),):
        if start < kept_start:
            runs.append((start, kept_start))
        start = kept_end
    return runs


def telling_of(entries):
    """What all telling of moments rests on: (the names laid, their strand, the runs that are cut off)."""
    return (names_by(entries), strand_by(entries), cut_runs(breaks_by(entries)))


def told_by(telling, moment):
    """What is told of a moment: (the names that run, how thick by sorts, whether the place is cut off later)."""
    names, strand, runs = telling
    those = tuple(sorted([names[number] for number in running(strand, moment)]))
    return (those, by_sorts(strand, moment), any([start <= moment < end for start, end in runs]))


def told_at(entries, moment):
    """What entries tell of a moment: (names, sorts, cut)."""
    return told_by(telling_of(entries), moment)
