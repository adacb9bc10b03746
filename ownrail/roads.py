"""Roads: the places that an engine's own rails tell, without end either way."""

from ownrail.engines import walk

# How many times round its rails a road goes till it has its first way again, by how far once round turns it.
LAPS = (1, 4, 2, 4)


class Road:
    """An engine's road, told by the places of its first round."""

    def __init__(self, engine):
        x, y, way, look, rails = engine
        turned, dx, dy = once_round(engine)
        self.many = len(rails)
        self.shapes = [shape for shape, colour in rails]
        self.span = self.many * LAPS[turned]
        # By how much one round leads on; a turned road comes back to its begin.
        self.drift = (dx, dy) if turned == 0 else (0, 0)
        self.places = walk(engine, self.span)

    def drifts(self):
        """Whether it never comes back to its begin."""
        return self.drift != (0, 0)

    def square_at(self, i):
        """The square of place i."""
        rounds, rest = divmod(i, self.span)
        (x, y), way = self.places[rest]
        dx, dy = self.drift
        return (x + rounds * dx, y + rounds * dy)

    def way_at(self, i):
        """The way by which one comes onto place i."""
        square, way = self.places[i % self.span]
        return way

    def shapes_from(self, i):
        """The shapes of an engine whose last rail lies on place i."""
        at = i % self.many
        return self.shapes[at:] + self.shapes[:at]

    def places_on(self, square):
        """A list of the places that have the square, rising: of a drift all, else those from 0 to span - 1."""
        found = []
        for rest, (there, way) in enumerate(self.places):
            rounds = rounds_between(there, square, self.drift)
            if rounds is not None:
                found.append(rest + rounds * self.span)
        return sorted(found)


def shortest_road(engine):
    """Its road, told by the fewest of its rails that, gone round again and again, have all its shapes."""
    x, y, way, look, rails = engine
    shapes = [shape for shape, colour in rails]
    for many in range(1, len(shapes)):
        if len(shapes) % many == 0 and shapes[many:] + shapes[:many] == shapes:
            return Road((x, y, way, look, rails[:many]))
    return Road(engine)


def rounds_between(one, other, drift):
    """How many times drift leads from the one square to the other, or None; without drift 0 or None."""
    dx, dy = other[0] - one[0], other[1] - one[1]
    if (dx, dy) == (0, 0):
        return 0
    if drift == (0, 0):
        return None
    rounds = dx // drift[0] if drift[0] != 0 else dy // drift[1]
    return rounds if (rounds * drift[0], rounds * drift[1]) == (dx, dy) else None


def place_of(engine, i):
    """((x, y), way): the square of place i of its road, and the way by which one comes onto it."""
    road = Road(engine)
    return (road.square_at(i), road.way_at(i))


def once_round(engine):
    """(turned, dx, dy): how far its road is turned and led on once round its rails."""
    x, y, way, look, rails = engine
    (next_x, next_y), next_way = walk(engine, len(rails) + 1)[-1]
    return ((next_way - way) % 4, next_x - x, next_y - y)


def kind_of(engine):
    """What its road is: a wheel, a drift or a ring."""
    turned, dx, dy = once_round(engine)
    if turned != 0:
        return "ring"
    return "wheel" if (dx, dy) == (0, 0) else "drift"


def round_of(engine):
    """How many places its road has till it goes on the same way, on the same squares but for a drift."""
    return Road(engine).span


def places_of(engine, square):
    """(places, N): the places of its road that have the square, each standing for all N more or fewer; 0 of a drift."""
    road = Road(engine)
    return (tuple(road.places_on(square)), 0 if road.drifts() else road.span)


def shares_square(road, i, first):
    """Whether place i has the square of one of the places, one fewer than the engine has rails, from first on."""
    return road.square_at(i) in [road.square_at(j) for j in range(first, first + road.many - 1)]


def is_free(engine):
    """Whether, alone, it never has a rail of its own in its way."""
    road = Road(engine)
    return not any([shares_square(road, i, i + 1) for i in range(road.many)])


def room_of(engine):
    """(back, forward): how many times it can go on till a rail of its own is in its way; None and None if never."""
    road = Road(engine)
    # Its shapes go round behind as many steps as it has rails, so what isn't in its way by then never is.
    steps = list(range(road.many))
    back = [gone for gone in steps if shares_square(road, -gone - 1, -gone)]
    forward = [gone for gone in steps if shares_square(road, gone + road.many, gone + 1)]
    return (back[0] if back else None, forward[0] if forward else None)


def gone_between(one, other):
    """By how many places the one gone on lies as the other, or None."""
    x, y, way, look, rails = other
    road = Road(one)
    shapes = [shape for shape, colour in rails]
    for i in road.places_on((x, y)):
        # Unlike numbers of rails are unlike lists of shapes.
        if road.way_at(i) == way and road.shapes_from(i) == shapes:
            return i
    return None
