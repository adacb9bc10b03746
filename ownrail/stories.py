"""Yards held against each other beat by beat, and rows of yards that a beat each makes of the one ahead."""

from ownrail.beats import beat
from ownrail.runs import Run

SEEN = 200


def parted_at(one, other, *, most=SEEN):
    """The first number of beats behind which what is seen of both is unlike; None where it is alike till most."""
    first, second = Run(one), Run(other)
    for gone in range(most + 1):
        if first.seen() != second.seen():
            return gone
        first.give_beat()
        second.give_beat()
    return None


def first_untrue(yards):
    """The place in the row of the first yard, but the first, that isn't what a beat makes of the one ahead; or None."""
    for place in range(1, len(yards)):
        later, meetings = beat(yards[place - 1])
        if yards[place] != later:
            return place
    return None
