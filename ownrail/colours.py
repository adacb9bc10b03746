"""The colours of a yard's rails, and where each came from."""

from ownrail.beats import beats


def colours_of(yard):
    """The colours of all rails: a tuple for each engine."""
    return tuple([tuple([colour for shape, colour in rails]) for x, y, way, look, rails in yard])


def with_colours(yard, rows):
    """The yard with these colours, as colours_of tells them."""
    engines = []
    for (x, y, way, look, rails), row in zip(yard, rows):
        coloured = [(shape, colour) for (shape, elder), colour in zip(rails, row)]
        engines.append((x, y, way, look, tuple(coloured)))
    return tuple(engines)


def marks_of(yard):
    """(number, place) of all rails: a tuple for each engine."""
    return tuple([tuple([(number, place) for place in range(len(engine[4]))]) for number, engine in enumerate(yard)])


def origins_of(yard, many):
    """For each rail behind so many beats (number, place) of the rail from which its colour came."""
    # Colours decide nothing, so marks in their place go where colours go.
    later, meetings = beats(with_colours(yard, marks_of(yard)), many)
    return colours_of(later)
