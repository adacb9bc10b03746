"""Engines (x, y, way, look, rails): looked at, gone on, turned by hand, painted."""

from ownrail.errors import NoEngine
from ownrail.squares import TURNS, onward, way_about, way_behind, way_on

RAILS = 12
COLOURS = 10
FAR = 1000000000


def is_whole(thing):
    """Whether a thing is a whole number."""
    # Python counts True and False among the ints, the document doesn't.
    return isinstance(thing, int) and not isinstance(thing, bool)


def has_rail_form(thing):
    """Whether a thing is a tuple of a text and a whole number."""
    if not isinstance(thing, tuple) or len(thing) != 2:
        return False
    shape, colour = thing
    return isinstance(shape, str) and is_whole(colour)


def has_rails_form(thing):
    """Whether a thing is a tuple of as many rails as an engine may have, by their form."""
    if not isinstance(thing, tuple) or not 1 <= len(thing) <= RAILS:
        return False
    return all([has_rail_form(rail) for rail in thing])


def has_engine_form(thing):
    """Whether a thing is an engine by its form alone."""
    if not isinstance(thing, tuple) or len(thing) != 5:
        return False
    x, y, way, look, rails = thing
    return all([is_whole(part) for part in (x, y, way, look)]) and has_rails_form(rails)


def look_engine(thing):
    """True of an engine; of any other thing NoEngine with the first word that is due."""
    if not has_engine_form(thing):
        raise NoEngine("form")
    x, y, way, look, rails = thing
    if abs(x) > FAR or abs(y) > FAR:
        raise NoEngine("far")
    if not 0 <= way <= 3:
        raise NoEngine("way")
    if look not in (1, -1):
        raise NoEngine("look")
    if any([shape not in TURNS for shape, colour in rails]):
        raise NoEngine("shape")
    if any([not 0 <= colour < COLOURS for shape, colour in rails]):
        raise NoEngine("colour")
    if lies_twice(thing):
        raise NoEngine("twice")
    return True


def lies_twice(engine):
    """Whether two of its rails lie on one square."""
    squares = squares_of(engine)
    return len(set(squares)) < len(squares)


def walk(engine, many):
    """A list of (square, way) of so many places of its road, from its last rail's on."""
    x, y, way, look, rails = engine
    square = (x, y)
    places = []
    for at in range(many):
        places.append((square, way))
        shape, colour = rails[at % len(rails)]
        way = way_on(way, shape)
        square = onward(square, way)
    return places


def squares_of(engine):
    """Its squares, the last rail's ahead."""
    x, y, way, look, rails = engine
    return tuple([square for square, onto in walk(engine, len(rails))])


def wanted_square(engine):
    """The square on which it would lay its next rail."""
    x, y, way, look, rails = engine
    if look == -1:
        return onward((x, y), way_about(way))
    square, onto = walk(engine, len(rails) + 1)[-1]
    return square


def gone_on(engine):
    """The engine gone on by one, as if all squares were free."""
    x, y, way, look, rails = engine
    if look == 1:
        return gone_forward(engine)
    return gone_back(engine)


def gone_forward(engine):
    """The engine with its last rail laid ahead of its first one."""
    x, y, way, look, rails = engine
    shape, colour = rails[0]
    next_way = way_on(way, shape)
    next_x, next_y = onward((x, y), next_way)
    return (next_x, next_y, next_way, look, rails[1:] + rails[:1])


def gone_back(engine):
    """The engine with its first rail laid behind its last one."""
    x, y, way, look, rails = engine
    shape, colour = rails[-1]
    next_x, next_y = onward((x, y), way_about(way))
    return (next_x, next_y, way_behind(way, shape), look, rails[-1:] + rails[:-1])


def turned_by_hand(engine):
    """The engine looking the other way."""
    x, y, way, look, rails = engine
    return (x, y, way, -look, rails)


def painted(engine, place, colour):
    """The engine with the rail at this place, from 0, of this colour."""
    x, y, way, look, rails = engine
    shape, elder = rails[place]
    return (x, y, way, look, rails[:place] + ((shape, colour),) + rails[place + 1:])
