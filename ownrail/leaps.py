"""Far yards, told by leaps from meeting to meeting."""

from ownrail.errors import TooMany
from ownrail.meetings import Chase

MEETINGS = 1000


def leap(yard, many, most):
    """(yard, meetings): the yard so many beats behind, and a list of the meetings in them."""
    chase = Chase(yard)
    meetings = []
    last, beats_met = 0, 0
    while (meeting := chase.next_meeting()) is not None and meeting[0] <= many:
        if meeting[0] != last:
            beats_met += 1
        if beats_met > most:
            raise TooMany(most)
        last = meeting[0]
        meetings.append(chase.meet(meeting))
    return (chase.yard_behind(many), meetings)


def far_yard(yard, many, *, most=MEETINGS):
    """The yard so many beats behind; TooMany where more than most of these beats have meetings."""
    later, meetings = leap(yard, many, most)
    return later


def far_meetings(yard, many, *, most=MEETINGS):
    """A list of the meetings of so many beats, each with its beat; TooMany as of the far yard."""
    later, meetings = leap(yard, many, most)
    return meetings
