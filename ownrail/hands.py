"""The fewest turnings by hand that bring an engine to a square."""

from ownrail.beats import beat
from ownrail.engines import squares_of, turned_by_hand
from ownrail.errors import NoNumber
from ownrail.rounds import bones_of


def fewest_turnings(yard, number, square, many):
    """The fewest (beats gone, number), rising, by which behind so many beats the engine lies on the square; or None."""
    if not 0 <= number < len(yard):
        raise NoNumber(number)
    # Colours decide nothing, so all that comes to the same bones is one.
    found = {bones_of(yard): ()}
    for gone in range(many):
        near = {now: turnings for now, turnings in found.items() if way_to(now[number], square) <= many - gone}
        # No two unlike yards come to one by a beat.
        found = {beat(now)[0]: turnings for now, turnings in turned_by_hands(near, gone).items()}
    return min([turnings for now, turnings in found.items() if way_to(now[number], square) == 0], key=len, default=None)


def way_to(engine, square):
    """How many squares are from the engine to the square; each beat brings it nearer by one at most."""
    x, y = square
    return min([abs(x - there_x) + abs(y - there_y) for there_x, there_y in squares_of(engine)])


def turned_by_hands(found, gone):
    """{yard: turnings} with any engines turned behind so many beats, each yard with the fewest turnings."""
    turned = {}
    for yard, turnings in found.items():
        for chosen in choices(len(yard)):
            now = turned_of(yard, chosen)
            longer = turnings + tuple([(gone, number) for number in chosen])
            if now not in turned or len(longer) < len(turned[now]):
                turned[now] = longer
    return turned


def choices(many):
    """All rows, each rising, of numbers below many."""
    rows = [()]
    for number in range(many):
        rows = rows + [row + (number,) for row in rows]
    return rows


def turned_of(yard, chosen):
    """The yard with the engines of the chosen numbers turned by hand."""
    return tuple([turned_by_hand(engine) if number in chosen else engine for number, engine in enumerate(yard)])
