"""Sample yards, and turns and beats by the slow way: all squares anew at each turn, by the walk of samples."""

from random import Random

from samples import LOOKS, SHAPES, WAYS, gone_by, walked


def engine_of(x, y, way, look, shapes, first_colour=0):
    rails = tuple((shape, (first_colour + at) % 10) for at, shape in enumerate(shapes))
    return (x, y, way, look, rails)


def slow_squares(engine):
    many = len(engine[4])
    road = walked(engine, 0, many - 1)
    return [road[at][0] for at in range(many)]


def lies_once(yard):
    squares = [square for engine in yard for square in slow_squares(engine)]
    return len(set(squares)) == len(squares)


def random_engine(chance, size=6, rails=12):
    many = chance.randint(1, rails)
    while True:
        engine = (
            chance.randint(-size, size), chance.randint(-size, size), chance.choice(WAYS), chance.choice(LOOKS),
            tuple((chance.choice(SHAPES), chance.randint(0, 9)) for rail in range(many)))
        if lies_once((engine,)):
            return engine


def random_yard(chance, many, size=6, rails=12, engine_by=random_engine):
    yard = ()
    while len(yard) < many:
        longer = yard + (engine_by(chance, size, rails),)
        if lies_once(longer):
            yard = longer
    return yard


def sample_yards(seed, each=3):
    """Yards of 0 to 8 engines, crowded and not, always the same for one seed."""
    chance = Random(seed)
    for many in range(9):
        for size, rails in ((5, 5), (6, 12), (12, 12)):
            for again in range(each):
                yield random_yard(chance, many, size, rails)


def slow_ground(yard):
    return {square: (number, rail) for number, engine in enumerate(yard)
            for rail, square in enumerate(slow_squares(engine))}


def painted_by_hand(yard, marks):
    """The yard with colours put in: marks is {(number, rail): colour}."""
    engines = []
    for number, (x, y, way, look, rails) in enumerate(yard):
        rows = [(shape, marks.get((number, at), colour)) for at, (shape, colour) in enumerate(rails)]
        engines.append((x, y, way, look, tuple(rows)))
    return tuple(engines)


def slow_turn(yard, number):
    """(yard, meeting) as point [13] says it, word by word."""
    engine = yard[number]
    many, look = len(engine[4]), engine[3]
    wanted, taken, nearest = (many, 0, many - 1) if look == 1 else (-1, many - 1, 0)
    square = walked(engine, -1, many)[wanted][0]
    there = slow_ground(yard).get(square)
    if there is None or there == (number, taken):
        return yard[:number] + (gone_by(engine, look),) + yard[number + 1:], None
    other, rail = there
    colours = {(number, nearest): yard[other][4][rail][1], (other, rail): engine[4][nearest][1]}
    yard = painted_by_hand(yard, colours)
    x, y, way, look, rails = yard[number]
    yard = yard[:number] + ((x, y, way, -look, rails),) + yard[number + 1:]
    return yard, (number, square, other, rail)


def slow_beat(yard):
    meetings = []
    for number in range(len(yard)):
        yard, meeting = slow_turn(yard, number)
        if meeting is not None:
            meetings.append(meeting)
    return yard, tuple(meetings)


def slow_beats(yard, many):
    meetings = []
    for gone in range(1, many + 1):
        yard, rows = slow_beat(yard)
        meetings += [(gone,) + row for row in rows]
    return yard, tuple(meetings)


# The first goes to and fro between two wheels.
COLUMN = (
    engine_of(0, 0, 0, 1, "ss", 3),
    engine_of(0, 6, 0, 1, "rrrr", 5),
    engine_of(0, -4, 0, -1, "rrrr", 1),
)

# Alone it is turned by its own rails: forward it wants the square of its rail at place 2.
OWN_WAY = engine_of(0, 0, 1, 1, "ssslll")
WHEEL = engine_of(0, 0, 0, 1, "rrrr")


def slow_free(engine):
    """Whether alone it is never turned, by a walk of its road."""
    many = len(engine[4])
    road = walked(engine, 0, 2 * many)
    return not any(road[i][0] == road[j][0] for i in range(many) for j in range(i + 1, i + many))


def random_free_engine(chance, size=6, rails=12):
    while True:
        engine = random_engine(chance, size, rails)
        if slow_free(engine):
            return engine


def free_yard(chance, many, size=6, rails=12):
    """A yard of so many engines, each free by itself."""
    return random_yard(chance, many, size, rails, random_free_engine)


def free_yards(seed, each=3):
    """Yards of 1 to 8 engines, each free by itself, crowded and not, always the same for one seed."""
    chance = Random(seed)
    for many in range(1, 9):
        for size, rails in ((4, 3), (6, 6), (8, 12), (20, 12)):
            for again in range(each):
                yield free_yard(chance, many, size, rails)


def gone_free(yard, beats_gone):
    """The yard with each engine gone on along its road by so many beats, below 0 too, as if none were ever turned."""
    return tuple(led_far(engine, beats_gone * engine[3]) for engine in yard)


def led_far(engine, k):
    """The engine gone on by k, however many: by whole rounds at once, the rest by a walk."""
    many = 4 * len(engine[4])
    x, y, way, look, rails = gone_by(engine, many)
    dx, dy = x - engine[0], y - engine[1]
    rounds, rest = divmod(k, many)
    x, y, way, look, rails = gone_by(engine, rest)
    return (x + rounds * dx, y + rounds * dy, way, look, rails)
