"""Squares, the four ways, and how the shapes of rails turn them."""

# By how many quarters to the right a shape turns the way.
TURNS = {"l": -1, "s": 0, "r": 1}
STEPS = ((0, 1), (1, 0), (0, -1), (-1, 0))


def way_on(way, shape):
    """The way by which one goes on from a rail of this shape, having come by way."""
    return (way + TURNS[shape]) % 4


def way_behind(way, shape):
    """The way by which one came onto a rail of this shape, if one goes on by way."""
    return (way - TURNS[shape]) % 4


def way_about(way):
    """The way against this one."""
    return (way + 2) % 4


def onward(square, way, *, steps=1):
    """The square so many squares on by a way."""
    x, y = square
    dx, dy = STEPS[way]
    return (x + dx * steps, y + dy * steps)
