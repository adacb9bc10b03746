"""Turns and beats, one by one, and back."""

from ownrail.errors import NoNumber
from ownrail.runs import Run
from ownrail.yards import turned_about


def one_turn(yard, number):
    """(yard, meeting) behind a turn of the engine of this number."""
    if not 0 <= number < len(yard):
        raise NoNumber(number)
    run = Run(yard)
    meeting = run.give_turn(number)
    return (run.as_yard(), meeting)


def beat(yard):
    """(yard, meetings) behind a turn of each engine, by their numbers."""
    run = Run(yard)
    meetings = run.give_beat()
    return (run.as_yard(), tuple(meetings))


def beats(yard, many):
    """(yard, meetings) behind so many beats, each meeting with its beat, from 1, ahead."""
    run = Run(yard)
    meetings = []
    for gone in range(1, many + 1):
        for meeting in run.give_beat():
            meetings.append((gone, *meeting))
    return (run.as_yard(), tuple(meetings))


def back_by(yard, many):
    """The yard from which so many beats lead to this one."""
    earlier, meetings = beats(turned_about(yard), many)
    return turned_about(earlier)
