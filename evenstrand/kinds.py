"""What things of any kind are: the one helper that all the checks share."""


def is_whole(thing, least):
    """Whether a thing is a whole number from least on."""
    # A truth is an int to Python, but no whole number.
    return isinstance(thing, int) and not isinstance(thing, bool) and thing >= least


def is_tuple(thing, fewest, most):
    """Whether a thing is a tuple of fewest to most parts."""
    return isinstance(thing, tuple) and fewest <= len(thing) <= most


def do_rise(numbers):
    """Whether numbers rise, no two of them alike."""
    return all([ahead < number for ahead, number in zip(numbers, numbers[1:])])
