"""A yard that goes beat by beat, kept so that a turn costs little however many rails there are."""

from ownrail.engines import walk
from ownrail.squares import onward, way_about, way_behind, way_on
from ownrail.yards import ground_of


class Train:
    """An engine on its way. Its rails keep the numbers that they had at first, wherever they come to lie."""

    def __init__(self, engine):
        x, y, way, look, rails = engine
        places = walk(engine, len(rails))
        self.look = look
        self.shapes = [shape for shape, colour in rails]
        self.colours = [colour for shape, colour in rails]
        self.squares = [square for square, onto in places]
        self.ways = [onto for square, onto in places]
        self.last = 0

    def ends(self):
        """(near, taken): the rail nearest to the square that it wants, and the one that it would take up."""
        first = (self.last - 1) % len(self.shapes)
        return (first, self.last) if self.look == 1 else (self.last, first)

    def wanted_place(self):
        """(square, way): where it would lay the rail that it takes up, and the way by which one comes onto it."""
        near, taken = self.ends()
        way = self.ways[near]
        if self.look == 1:
            way = way_on(way, self.shapes[near])
            return (onward(self.squares[near], way), way)
        return (onward(self.squares[near], way_about(way)), way_behind(way, self.shapes[taken]))

    def go_on(self, square, way):
        """Lays the rail that it takes up on the wanted square."""
        near, taken = self.ends()
        self.squares[taken] = square
        self.ways[taken] = way
        self.last = (self.last + self.look) % len(self.shapes)

    def place_now(self, rail):
        """The place of this rail among its rails as they lie now."""
        return (rail - self.last) % len(self.shapes)

    def bones(self):
        """All that it is but its colours."""
        return (self.squares[self.last], self.ways[self.last], self.look, self.as_they_lie(self.shapes))

    def as_they_lie(self, parts):
        """These parts of its rails, the last rail's ahead."""
        return parts[self.last:] + parts[:self.last]

    def as_engine(self):
        """The engine that it is now."""
        x, y = self.squares[self.last]
        rails = tuple(zip(self.as_they_lie(self.shapes), self.as_they_lie(self.colours)))
        return (x, y, self.ways[self.last], self.look, rails)


class Run:
    """A yard on its way."""

    def __init__(self, yard):
        self.trains = [Train(engine) for engine in yard]
        self.lying = ground_of(yard)

    def give_turn(self, number):
        """Gives the engine of this number its turn: None, or the meeting."""
        train = self.trains[number]
        square, way = train.wanted_place()
        near, taken = train.ends()
        there = self.lying.get(square)
        if there is not None and there != (number, taken):
            return self.turn_back(number, square)
        del self.lying[train.squares[taken]]
        self.lying[square] = (number, taken)
        train.go_on(square, way)
        return None

    def turn_back(self, number, square):
        """Turns the engine of this number for what lies on the square that it wants, and tells the meeting."""
        train = self.trains[number]
        near, taken = train.ends()
        other, rail = self.lying[square]
        met = self.trains[other]
        train.look = -train.look
        train.colours[near], met.colours[rail] = met.colours[rail], train.colours[near]
        return (number, square, other, met.place_now(rail))

    def give_beat(self):
        """Gives each engine its turn; a list of the meetings."""
        meetings = []
        for number in range(len(self.trains)):
            meeting = self.give_turn(number)
            if meeting is not None:
                meetings.append(meeting)
        return meetings

    def bones(self):
        """All that the yard is but its colours."""
        return [train.bones() for train in self.trains]

    def seen(self):
        """A dict from all squares that have a rail to their colours."""
        return {square: self.trains[number].colours[rail] for square, (number, rail) in self.lying.items()}

    def as_yard(self):
        """The yard that it is now."""
        return tuple([train.as_engine() for train in self.trains])
