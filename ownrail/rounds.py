"""Yards that come back to themselves."""

from ownrail.colours import colours_of, marks_of, with_colours
from ownrail.errors import TooLong
from ownrail.runs import Run

ROUND = 5000


def bones_of(yard):
    """The yard with all colours 0."""
    return with_colours(yard, [[0 for colour in row] for row in colours_of(yard)])


def round_of_yard(yard, *, most=ROUND):
    """(round, times): behind how many beats its bones are the same, and behind how many such rounds its colours."""
    marks = marks_of(yard)
    beats_gone, later = first_round(with_colours(yard, marks), most)
    rails = {mark: rail for rail, mark in enumerate(in_one_row(marks))}
    sources = [rails[mark] for mark in in_one_row(colours_of(later))]
    return (beats_gone, times_round(in_one_row(colours_of(yard)), sources, most))


def first_round(yard, most):
    """(beats, yard): the least number of beats, from 1, behind which its bones are the same, and the yard then."""
    run = Run(yard)
    bones = run.bones()
    for gone in range(1, most + 1):
        run.give_beat()
        if run.bones() == bones:
            return (gone, run.as_yard())
    raise TooLong(most)


def times_round(colours, sources, most):
    """The least number of times, from 1, by which colours are the same, each time taken from their sources."""
    now = colours
    for times in range(1, most + 1):
        now = [now[rail] for rail in sources]
        if now == colours:
            return times
    raise TooLong(most)


def in_one_row(rows):
    """A list of all that stands in the rows."""
    return [part for row in rows for part in row]
