"""The fate of two engines that are free by themselves: free behind some beat, or going round for ever."""

from ownrail.alike import led_yard
from ownrail.colours import colours_of, marks_of, with_colours
from ownrail.errors import TooMany
from ownrail.leaps import MEETINGS, far_yard
from ownrail.meetings import Chase


def fate_and_turns(yard, most):
    """(fate, turns): the fate of two, and at how many turns in all one is turned, None where that has no end."""
    chase = Chase(yard)
    first = None
    last, beats_met, turns = 0, 0, 0
    while (meeting := chase.next_meeting()) is not None:
        beat = meeting[0]
        if beat != last:
            # Two go round from the very begin, if they do: so the bones ahead of the first meeting come again.
            if first is None:
                first = (beat, stand_in(chase, beat))
            elif (shift := shift_between(chase, first[1], stand_in(chase, beat))) is not None:
                return (("round", beat - first[0], *shift), None)
            beats_met += 1
            if beats_met > most:
                raise TooMany(most)
        last = beat
        turns += 1
        chase.meet(meeting)
    return (("free", last), turns)


def stand_in(chase, beat):
    """Where all engines are on their roads ahead of this beat, and how they look."""
    return [(mover.place_in(beat), mover.look) for mover in chase.movers]


def shift_between(chase, one, other):
    """(dx, dy) by which the one stand led on is the other, but for colours; None where it isn't."""
    shifts = []
    for mover, (place, look), (later_place, later_look) in zip(chase.movers, one, other):
        rounds, rest = divmod(later_place - place, mover.road.span)
        if rest != 0 or look != later_look:
            return None
        dx, dy = mover.road.drift
        shifts.append((rounds * dx, rounds * dy))
    return shifts[0] if shifts[0] == shifts[1] else None


def fate_of(yard, *, most=MEETINGS):
    """("free", beat) or ("round", beats, dx, dy): how all will end with two engines."""
    fate, turns = fate_and_turns(yard, most)
    return fate


def how_often(yard, *, most=MEETINGS):
    """At how many turns in all one of two engines is turned; None where that goes on without end."""
    fate, turns = fate_and_turns(yard, most)
    return turns


def far_of_two(yard, many, *, most=MEETINGS):
    """The yard of two engines so many beats behind, however many meetings are between."""
    fate, turns = fate_and_turns(yard, most)
    if fate[0] == "free":
        return far_yard(yard, many, most=many)
    word, length, dx, dy = fate
    times, rest = divmod(many, length)
    rounded = behind_rounds(yard, length, times)
    return far_yard(led_yard(rounded, dx=times * dx, dy=times * dy), rest, most=rest)


def behind_rounds(yard, length, times):
    """The yard with the colours that it has behind so many rounds, each of this length in beats."""
    # Colours decide nothing, so marks in their place tell where one round takes each colour.
    later = far_yard(with_colours(yard, marks_of(yard)), length, most=length)
    return with_colours(yard, taken_times(colours_of(yard), colours_of(later), times))


def taken_times(colours, origins, times):
    """The colours taken from their origins so many times."""
    while times > 0:
        if times % 2 == 1:
            colours = taken_from(colours, origins)
        # Twice as often in one step, since a million million times can't be gone one by one.
        origins = taken_from(origins, origins)
        times = times // 2
    return colours


def taken_from(parts, origins):
    """For each (number, place) of the rows of origins the part that stands there."""
    return tuple([tuple([parts[number][place] for number, place in row]) for row in origins])
