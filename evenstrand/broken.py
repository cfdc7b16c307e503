"""Rows drawn late with breaks, and what the breaks cost."""

from evenstrand.bounds import lasts
from evenstrand.breaking import first_left, left
from evenstrand.drawing import lasting


def next_break(moment, breaks):
    """The least moment of a break above a moment, or None."""
    return min([at for at, lap in breaks if at > moment], default=None)


def with_breaks(row, moments, breaks):
    """The strand of a row's wisps laid at these moments, let go at the next break."""
    return tuple([(wisp, at, next_break(at, breaks)) for wisp, at in zip(row, moments)])


def drawn_with(row, low, breaks):
    """The schedule by which each next wisp is laid at the first moment that is too thin without it, with breaks."""
    moments = ()
    for number in range(len(row)):
        moments += (lasts(with_breaks(row[:number], moments, breaks), low),)
    return moments


def lasting_with(row, low, breaks):
    """The first moment that is too thin though the whole row is drawn, with breaks."""
    return lasts(with_breaks(row, drawn_with(row, low, breaks), breaks), low)


def laid_with(row, low, breaks, length):
    """How many wisps are laid when a length is first come to, or None where it isn't."""
    if length <= 0:
        return 0
    # At its own moment the last of these places is drawn: they are there behind it.
    end = first_left(length - 1, breaks) + 1
    if end > lasting_with(row, low, breaks):
        return None
    return len([at for at in drawn_with(row, low, breaks) if at < end])


def cost(row, low, breaks, length):
    """What breaks cost: (places lost at last, more wisps for a length, None where it isn't come to)."""
    lost = lasting(row, low) - left(lasting_with(row, low, breaks), breaks)
    laid = laid_with(row, low, breaks, length)
    return (lost, None if laid is None else laid - laid_with(row, low, (), length))
