"""What the tests share: small strands, things of any kind, and a model that goes place by place."""

import copy
import random

from evenstrand.errors import StrandError

BIG = 10 ** 40 - 1

NARROW = (0, ((5, 3), (2, 4)))
EVEN = (1, ((4, 6),))
STEEP = (0, tuple((8 - k, 1) for k in range(8)))


def nested(depth):
    """A tuple nested so deep."""
    thing = ()
    for _ in range(depth - 1):
        thing = (thing,)
    return thing


def anything():
    """Things of many kinds, none of them a wisp, a row, a schedule but for (), or a strand but for ()."""
    return [
        None, True, False, 0, 1, -1, BIG, "", "0:5x3", b"", b"ab", [], [1], {}, {0: 1}, set(), {1, 2},
        frozenset(), range(3), object(), object, len, (lambda: 0), Ellipsis, NotImplemented, ValueError("x"),
        (None,), (True,), ("",), (0,), (0, 1), (0, 1, None), ((), ()), ((), (), ()), (((),),),
        (0, ()), (0, []), (0, None), (0, "ab"), (0, 5), (0, ((),)), (0, (5, 3)), (0, ("53",)), (0, ((5,),)),
        nested(60), [nested(59)], (0, nested(59)), (nested(59), 0), (0, (nested(58),)), (0, ((5, nested(57)),)),
    ]


def not_wisps():
    """Things that miss being a wisp by a little."""
    steps = ((5, 3), (2, 4))
    return anything() + [
        (), (0,), (0, steps, 0), (steps, 0), (0, steps, None), [0, steps], (0, list(steps)),
        (0, ([5, 3], (2, 4))), (0, ((5, 3), [2, 4])),
        (True, steps), (False, steps), (-1, steps), (2, steps), (None, steps), ("0", steps), (BIG, steps),
        (0, ((True, 3),)), (0, ((5, True),)), (0, ((False, 3),)), (0, (("5", 3),)), (0, ((5, "3"),)),
        (0, ((None, 3),)), (0, ((5, None),)), (0, ((5, (3,)),)), (0, ((0, 3),)), (0, ((5, 0),)),
        (0, ((-5, 3),)), (0, ((5, -3),)), (0, ((5, 3, 1),)), (0, ((5,), (2, 4))),
        (0, ((5, 3), (5, 4))), (0, ((2, 4), (5, 3))), (0, ((5, 3), (2, 4), (2, 1))), (0, ((5, 3), (0, 4))),
        (0, ((5, 3), (1, 1), (2, 1))), (0, tuple((9 - k, 1) for k in range(9))),
        (0, {(5, 3): 1}), (0, {(5, 3)}), {0: steps}, ((0, steps),),
    ]


def thin_out(wisp):
    """The thicknesses of a wisp, place by place."""
    return [thickness for thickness, long in wisp[1] for _ in range(long)]


def model_of(laid, p):
    """How thick a laid wisp is at a place, by the list of its thicknesses."""
    wisp, at, let = laid
    places = thin_out(wisp)
    runs = at <= p < at + len(places) and (let is None or p < let)
    return places[p - at] if runs else 0


def model_thick(strand, p):
    return sum(model_of(laid, p) for laid in strand)


def model_lasts(strand, low, now=0):
    """The first place from now on that is too thin, by going place by place."""
    p = now
    while model_thick(strand, p) >= low:
        p += 1
    return p


def some_wisp(chance):
    thicks = sorted(chance.sample(range(1, 7), chance.randint(1, 3)), reverse=True)
    return (chance.randint(0, 1), tuple((thickness, chance.randint(1, 4)) for thickness in thicks))


def some_strand(chance, most=6):
    strand = []
    for _ in range(chance.randint(0, most)):
        at = chance.randint(0, 14)
        strand.append((some_wisp(chance), at, chance.choice([None, None, at + chance.randint(1, 9)])))
    return tuple(strand)


def some_strands(many=150):
    """The same small strands each time: those of one seed."""
    chance = random.Random(20)
    return [some_strand(chance) for _ in range(many)]


def some_row(chance, most=5):
    return tuple(some_wisp(chance) for _ in range(chance.randint(0, most)))


def full_row():
    """A row of 60 wisps."""
    return tuple((STEEP, NARROW, EVEN)[k % 3] for k in range(60))


def full_strand():
    """A strand of 60 laid wisps."""
    return tuple((STEEP if k % 2 else EVEN, 3 * k, None if k % 3 else 3 * k + 5) for k in range(60))


def asked_twice(test, function, *given):
    """What a function tells, asked twice; what is handed in stays as it was."""
    kept = copy.deepcopy(given)
    told = function(*given)
    test.assertEqual(told, function(*given))
    test.assertEqual(given, kept)
    return told


def is_truth(test, function, *given):
    """What a check tells: a truth, not only something that counts as one."""
    told = function(*given)
    test.assertIsInstance(told, bool)
    return told


def check_nothing_fits(test, function, things):
    """That a check refuses all these things, and leaves them as they were."""
    for thing in things:
        shown = repr(thing)
        with test.subTest(thing=shown):
            test.assertIs(function(thing), False)
            test.assertEqual(repr(thing), shown)


def check_refused(test, function, thing, kind):
    """That a thing is refused with its own class alone, asked twice, and stays as it was; tells the refusal."""
    shown = repr(thing)
    with test.subTest(thing=shown[:200]):
        for _ in range(2):
            with test.assertRaises(StrandError) as caught:
                function(thing)
            test.assertIs(caught.exception.__class__, kind)
            test.assertEqual(repr(thing), shown)
        return caught.exception
