"""First meetings of engines that are free by themselves, told by their roads, however far."""

from ownrail.common import rows_of_roads
from ownrail.errors import OwnWay
from ownrail.roads import is_free, shortest_road


class Mover:
    """An engine that goes on by one place of its road each beat, but those in which it is turned."""

    def __init__(self, engine):
        x, y, way, look, rails = engine
        self.road = shortest_road(engine)
        self.shapes = [shape for shape, colour in rails]
        self.colours = [colour for shape, colour in rails]
        self.look = look
        # Ahead of its turn in a beat its last rail lies on the place zero + look * beat; ahead of beat 1 on 0.
        self.zero = -look

    def place_in(self, beat):
        """Its last rail's place ahead of its turn in this beat."""
        return self.zero + self.look * beat

    def wanted_in(self, beat):
        """The place that it wants in this beat."""
        return self.place_in(beat) + (len(self.shapes) if self.look == 1 else -1)

    def near_in(self, beat):
        """The rail, by its place in the rails as they were first, that is nearest to the place that it wants."""
        return (self.wanted_in(beat) - self.look) % len(self.shapes)

    def turn_in(self, beat):
        """It is turned in this beat, so it lies in the next one where it lies now."""
        place = self.place_in(beat)
        self.look = -self.look
        self.zero = place - self.look * (beat + 1)

    def engine_in(self, beat):
        """The engine that it is ahead of its turn in this beat."""
        place = self.place_in(beat)
        x, y = self.road.square_at(place)
        at = place % len(self.shapes)
        rails = tuple(zip(self.shapes[at:] + self.shapes[:at], self.colours[at:] + self.colours[:at]))
        return (x, y, self.road.way_at(place), self.look, rails)


class Watch:
    """When the one mover next wants a square on which the other lies."""

    def __init__(self, one, other, lead):
        self.one = one
        self.other = other
        # How many more turns than the one the other has had when the one has its turn: 1 if it has the lower number.
        self.lead = lead
        self.rows = rows_of_roads(one.road, other.road)
        self.hits = self.all_hits()
        self.waits = {}

    def all_hits(self):
        """Of two roads that come back: {(place that the one wants, the other's last rail's place): rail met}."""
        if self.has_drift():
            return {}
        span, many = self.other.road.span, len(self.other.shapes)
        return {(u, (v - rail) % span): rail for u, v, steps in self.rows for rail in range(many)}

    def has_drift(self):
        """Whether one of both drifts."""
        return self.one.road.drifts() or self.other.road.drifts()

    def next_from(self, beat):
        """(beat, rail): the first beat from this one on in which the other's rail turns the one; None where never."""
        if self.rows == ():
            return None
        if not self.has_drift():
            return self.next_of_rounds(beat)
        found = [self.next_on_row(row, beat) for row in self.rows]
        return min([told for told in found if told is not None], default=None)

    def next_on_row(self, row, first):
        """(beat, rail) as next_from tells them, by the pairs of one row alone; one of both drifts."""
        i, j, steps = row
        p, q = steps[0] if steps != () else (0, 0)
        beat = first + self.one.look * (i - self.one.wanted_in(first))
        rail = j - self.other.place_in(beat + self.lead)
        # The pair k steps on is met k paces later, at a rail k shifts on, if it is met; k is turned to let time rise.
        pace = self.one.look * p
        shift = q - self.other.look * pace
        if pace < 0:
            pace, shift = -pace, -shift
        steps_on = least_steps(first - beat, pace, rail, shift, len(self.other.shapes))
        beat, rail = beat + steps_on * pace, rail + steps_on * shift
        return (beat, rail) if beat >= first and 0 <= rail < len(self.other.shapes) else None

    def next_of_rounds(self, beat):
        """(beat, rail) as next_from tells them, where both come back to where they were."""
        at = (self.one.wanted_in(beat) % self.one.road.span,
              self.other.place_in(beat + self.lead) % self.other.road.span)
        wait = self.wait_from(at)
        return None if wait is None else (beat + wait, self.hits[self.gone_on_by(at, wait)])

    def gone_on_by(self, at, many):
        """The places of both, as hits have them, so many beats later."""
        u, v = at
        return ((u + self.one.look * many) % self.one.road.span, (v + self.other.look * many) % self.other.road.span)

    def wait_from(self, at):
        """How many beats it takes from these places till the one is turned; None where it never is."""
        looks = (self.one.look, self.other.look)
        passed = []
        # Kept for all places passed, so that all calls together go over each pair of places but once.
        while (looks, at) not in self.waits and at not in self.hits:
            self.waits[(looks, at)] = None
            passed.append(at)
            at = self.gone_on_by(at, 1)
        wait = 0 if at in self.hits else self.waits[(looks, at)]
        if wait is None:
            return None
        for many, place in enumerate(reversed(passed), start=1):
            self.waits[(looks, place)] = wait + many
        return wait + len(passed)


def least_steps(late, pace, rail, shift, many):
    """The least k by which k paces are at least late, and rail and k shifts from 0 to many - 1, if any k does."""
    bounds = []
    if pace > 0:
        bounds.append(-(-late // pace))
    if shift > 0:
        bounds.append(-(rail // shift))
    if shift < 0:
        bounds.append(-((many - 1 - rail) // -shift))
    return max(bounds, default=0)


class Chase:
    """A yard of engines that are free by themselves, going from meeting to meeting."""

    def __init__(self, yard):
        for number, engine in enumerate(yard):
            if not is_free(engine):
                raise OwnWay(number)
        self.movers = [Mover(engine) for engine in yard]
        self.watches = self.all_watches()
        self.due = {}
        for one, other in self.watches:
            self.watch(one, other, 1)

    def all_watches(self):
        """A Watch for each (number, other) whose roads have squares in common."""
        watches = {}
        for number, one in enumerate(self.movers):
            for other, mover in enumerate(self.movers):
                if other != number:
                    watch = Watch(one, mover, 1 if other < number else 0)
                    if watch.rows != ():
                        watches[(number, other)] = watch
        return watches

    def watch(self, number, other, beat):
        """Finds anew when, from this beat on, the one comes to be turned by the other."""
        pair = (number, other)
        found = self.watches[pair].next_from(beat) if pair in self.watches else None
        if found is not None:
            self.due[pair] = (found[0], number, other, found[1])
        elif pair in self.due:
            del self.due[pair]

    def next_meeting(self):
        """(beat, number, other, rail) of the next turn at which an engine is turned, or None where none ever is."""
        return min(list(self.due.values()), default=None)

    def meet(self, meeting):
        """Turns the engine of the next meeting; told as beats tell it: (beat, number, square, other, rail)."""
        beat, number, other, rail = meeting
        one, met = self.movers[number], self.movers[other]
        square = one.road.square_at(one.wanted_in(beat))
        near = one.near_in(beat)
        there = (met.place_in(beat + self.watches[(number, other)].lead) + rail) % len(met.shapes)
        one.colours[near], met.colours[there] = met.colours[there], one.colours[near]
        one.turn_in(beat)
        for mover in range(len(self.movers)):
            self.watch(number, mover, beat + 1)
            self.watch(mover, number, beat if mover > number else beat + 1)
        return (beat, number, square, other, rail)

    def yard_behind(self, many):
        """The yard behind so many beats, if no meeting is left till then."""
        return tuple([mover.engine_in(many + 1) for mover in self.movers])


def first_meeting(yard):
    """(beat, number, other) of the first turn at which an engine is turned, or None where none ever is."""
    meeting = Chase(yard).next_meeting()
    return None if meeting is None else meeting[:3]
