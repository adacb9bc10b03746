"""Yards, tuples of engines: looked at, what lies where, turned about."""

from ownrail.engines import look_engine, squares_of, turned_by_hand
from ownrail.errors import NoEngine, NoYard

ENGINES = 8


def look_numbered(thing, number):
    """True of an engine; of any other thing NoYard with the word that is due and this number."""
    try:
        return look_engine(thing)
    except NoEngine as error:
        raise NoYard(error.word, number) from None


def look_yard(thing):
    """True of a yard; of any other thing NoYard with the first word that is due."""
    if not isinstance(thing, tuple):
        raise NoYard("form", 0)
    if len(thing) > ENGINES:
        raise NoYard("many", ENGINES)
    taken = {}
    for number, engine in enumerate(thing):
        look_numbered(engine, number)
        for square in squares_of(engine):
            if square in taken:
                raise NoYard("met", number)
            taken[square] = True
    return True


def ground_of(yard):
    """A dict from all squares that have a rail, rising, to (number, rail)."""
    lying = {}
    for number, engine in enumerate(yard):
        for rail, square in enumerate(squares_of(engine)):
            lying[square] = (number, rail)
    return {square: lying[square] for square in sorted(lying)}


def what_lies(yard, square):
    """(number, rail) of what lies on the square, or None."""
    return ground_of(yard).get(square)


def turned_about(yard):
    """The yard with all engines looking the other way, the last number first."""
    return tuple([turned_by_hand(engine) for engine in yard[::-1]])
