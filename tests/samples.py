"""What several test files need: any things, sample engines, and a road walked by other means."""

from itertools import product

FAR = 1_000_000_000
WAYS = (0, 1, 2, 3)
LOOKS = (1, -1)
SHAPES = ("l", "s", "r")


def nested(depth):
    thing = ()
    for level in range(depth - 1):
        thing = (thing,)
    return thing


WHOLE = (0, 1, -1, 9, 10, FAR, -FAR, FAR + 1, 10 ** 30, -(10 ** 30))
NOT_WHOLE = (True, False, None, "", "0", "s", "abcde", "a\nb~", (), (0,), (None, True), ("s", 0), nested(12))
ANY_THINGS = WHOLE + NOT_WHOLE

# The walk uses complex numbers, x real and y imaginary, so that it shares nothing with the program.
HEADINGS = (1j, 1, -1j, -1)
BENDS = {"l": 1j, "s": 1, "r": -1j}


def as_square(point):
    return (round(point.real), round(point.imag))


def walked(engine, first, last):
    """{place: (square, way)} of the engine's road, for first to last, first at most 0."""
    x, y, way, look, rails = engine
    bends = [BENDS[shape] for shape, colour in rails]
    places = {}
    point, heading = complex(x, y), HEADINGS[way]
    for at in range(last + 1):
        places[at] = (as_square(point), HEADINGS.index(heading))
        heading *= bends[at % len(bends)]
        point += heading
    point, heading = complex(x, y), HEADINGS[way]
    for at in range(-1, first - 1, -1):
        point -= heading
        heading /= bends[at % len(bends)]
        places[at] = (as_square(point), HEADINGS.index(heading))
    return places


def gone_by(engine, k):
    """The engine gone on by k along its road, as if all were free, with its look as it was."""
    x, y, way, look, rails = engine
    (x, y), way = walked(engine, min(k, 0), max(k, 0))[k]
    at = k % len(rails)
    return (x, y, way, look, rails[at:] + rails[:at])


def rails_of(shapes):
    """Rails of these shapes, their colours going round from 3 on so that rails are told apart."""
    return tuple((shape, (3 + at) % 10) for at, shape in enumerate(shapes))


def short_engines(most):
    """All engines of 1 to most rails on and near (0, 0), all ways, both looks, all shapes."""
    for many in range(1, most + 1):
        for shapes in product(SHAPES, repeat=many):
            for way, look in product(WAYS, LOOKS):
                yield (0, 0, way, look, rails_of(shapes))
                yield (-7, 4, way, look, rails_of(shapes))


LONG_SHAPES = ("s" * 12, "lr" * 6, "rsl" * 4, "sssrsssrsss", "lslsrsrs", "rrslslsrrls", "ssssssssssrl",
               "rsrls", "llsrrl", "srsrsls", "lrrslslsr", "rsslrlssrr")


def long_engines():
    """Engines of 5 to 12 rails, near and as far out as may be, all ways, both looks."""
    corners = ((0, 0), (5, -3), (FAR, FAR), (FAR, -FAR), (-FAR, FAR), (-FAR, -FAR), (FAR, 0), (0, -FAR))
    for shapes, (x, y), way, look in product(LONG_SHAPES, corners, WAYS, LOOKS):
        yield (x, y, way, look, rails_of(shapes))
