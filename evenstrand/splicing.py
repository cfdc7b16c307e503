"""Strands joined: behind one another, cut off, from a place on, let go."""

from evenstrand.strands import thick_of
from evenstrand.wisps import tail


def let_by(laid, p):
    """A laid wisp that is let go at a place, if it wasn't ahead of it."""
    wisp, at, let = laid
    return (wisp, at, p if let is None else min(let, p))


def moved(laid, by):
    """A laid wisp with so much added to its places."""
    wisp, at, let = laid
    return (wisp, at + by, None if let is None else let + by)


def behind(one, other, at):
    """The laid wisps of one strand, then those of another, which starts at a place."""
    return one + tuple([moved(laid, at) for laid in other])


def cut_off(strand, p):
    """What is laid below a place, let go there."""
    return tuple([let_by(laid, p) for laid in strand if laid[1] < p])


def rest_from(laid, p):
    """A laid wisp from a place on, which becomes its 0; it runs there or is laid behind it."""
    wisp, at, let = laid
    if at < p:
        return moved((tail(wisp, p - at), p, let), -p)
    return moved(laid, -p)


def from_on(strand, p):
    """The strand from a place on, which becomes its 0."""
    kept = [laid for laid in strand if laid[1] >= p or thick_of(laid, p) > 0]
    return tuple([rest_from(laid, p) for laid in kept])


def let_go(strand, number, p):
    """The same strand, but the laid wisp of this number is let go at a place."""
    return tuple([let_by(laid, p) if k == number else laid for k, laid in enumerate(strand)])
