"""Yards led on, turned and mirrored; which are alike; what is seen of one."""

from ownrail.yards import ground_of

MIRRORED = {"l": "r", "s": "s", "r": "l"}
# Each way in which a yard can lie: (quarters, mirrored).
POSES = (
    (0, False), (1, False), (2, False), (3, False),
    (0, True), (1, True), (2, True), (3, True),
)


def led_square(x, y, quarters, mirrored):
    """The square mirrored, if so, then turned to the right about (0, 0) so many quarters."""
    if mirrored:
        x = -x
    for quarter in range(quarters):
        x, y = y, -x
    return (x, y)


def led_engine(engine, quarters, mirrored, dx, dy):
    """The engine mirrored, if so, turned, then led on."""
    x, y, way, look, rails = engine
    x, y = led_square(x, y, quarters, mirrored)
    if mirrored:
        way = -way
        rails = tuple([(MIRRORED[shape], colour) for shape, colour in rails])
    return (x + dx, y + dy, (way + quarters) % 4, look, rails)


def led_yard(yard, *, quarters=0, mirrored=False, dx=0, dy=0):
    """The yard mirrored, if so, turned to the right so many quarters about (0, 0), then led on by (dx, dy)."""
    return tuple([led_engine(engine, quarters, mirrored, dx, dy) for engine in yard])


def way_between(one, other):
    """(dx, dy) from where the one's engine 0 lies to where the other's does; both have engines."""
    return (other[0][0] - one[0][0], other[0][1] - one[0][1])


def leading_from(one, other):
    """(quarters, mirrored, dx, dy) that leads the one yard to the other, or None."""
    if one == () or other == ():
        return (0, False, 0, 0) if one == other else None
    for quarters, mirrored in POSES:
        posed = led_yard(one, quarters=quarters, mirrored=mirrored)
        dx, dy = way_between(posed, other)
        if led_yard(posed, dx=dx, dy=dy) == other:
            return (quarters, mirrored, dx, dy)
    return None


def code_of(yard):
    """The least of all yards alike to it in which engine 0's last rail lies on (0, 0)."""
    if yard == ():
        return ()
    posed = [led_yard(yard, quarters=quarters, mirrored=mirrored) for quarters, mirrored in POSES]
    return min([led_yard(pose, dx=-pose[0][0], dy=-pose[0][1]) for pose in posed])


def seen_of(yard):
    """A dict from all squares that have a rail, rising, to their colours."""
    seen = {}
    for square, (number, rail) in ground_of(yard).items():
        shape, colour = yard[number][4][rail]
        seen[square] = colour
    return seen
