"""A desk: a ground by rows of words."""

from ownrail.alike import seen_of
from ownrail.errors import NoRow
from ownrail.fates import fate_of
from ownrail.ground import Ground
from ownrail.leaps import far_yard
from ownrail.meetings import first_meeting
from ownrail.roads import place_of
from ownrail.texts import FIGURES, WAY_WORDS, read_engine, read_whole, read_yard, show_engine, show_yard

BOUND = 1000000000000
MET_MOST = 2000
# What stands behind a row's first word: K figures, I figures perhaps below 0, C one figure. Of T, an engine's or a
# yard's text, any words may stand there.
ROWS = {
    "yard": "T", "go": "K", "down": "T", "away": "K", "turn": "K", "paint": "KKC", "swap": "KK", "back": "", "show": "",
    "seen": "II", "road": "KI", "meet": "", "far": "K", "fate": "",
}


def read_part(word, kind):
    """The number of a word of this kind, or NoRow."""
    if kind == "C" and (len(word) != 1 or word not in FIGURES):
        raise NoRow()
    if kind == "K" and word.startswith("-"):
        raise NoRow()
    number = read_whole(word, BOUND)
    if number is None:
        raise NoRow()
    return number


def read_row(row):
    """(word, parts): the first word of a row and what stands behind it, read; or NoRow."""
    word, *words = row.split(" ")
    if "\n" in row or word not in ROWS or "" in words:
        raise NoRow()
    kinds = ROWS[word]
    if kinds == "T" and len(words) > 0:
        return (word, [" ".join(words)])
    if kinds == "T" or len(words) != len(kinds):
        raise NoRow()
    return (word, [read_part(part, kind) for part, kind in zip(words, kinds)])


def shown(yard):
    """The yard's text in one row."""
    return "none" if yard == () else show_yard(yard).replace("\n", " ; ")


def say_go(ground, many):
    """How many meetings there were in so many beats."""
    return f"{ground.meetings_in(many)} met"


def say_down(ground, text):
    """The number of the engine laid down."""
    return f"number {ground.down(read_engine(text))}"


def say_away(ground, number):
    """The text of the engine taken away."""
    return show_engine(ground.away(number))


def say_turn(ground, number):
    """That the engine was turned."""
    ground.turn(number)
    return "turned"


def say_paint(ground, number, place, colour):
    """The elder colour."""
    return f"was {ground.paint(number, place, colour)}"


def say_swap(ground, one, other):
    """That the numbers were exchanged."""
    ground.swap(one, other)
    return "swapped"


def say_back(ground):
    """Whether there was a deed to take back."""
    return "back" if ground.back() else "nothing"


def say_show(ground):
    """The yard's text."""
    return shown(ground.standing())


def say_seen(ground, x, y):
    """The colour of what lies on a square."""
    colour = seen_of(ground.standing()).get((x, y))
    return "none" if colour is None else str(colour)


def say_road(ground, number, i):
    """The square and way of a place of an engine's road."""
    (x, y), way = place_of(ground.engine_at(number), i)
    return f"{x} {y} {WAY_WORDS[way]}"


def say_meet(ground):
    """The first meeting."""
    meeting = first_meeting(ground.standing())
    return "never" if meeting is None else " ".join([str(part) for part in meeting])


def say_far(ground, many):
    """The far yard's text."""
    return shown(far_yard(ground.standing(), many, most=MET_MOST))


def say_fate(ground):
    """The fate of two engines."""
    yard = ground.standing()
    if len(yard) != 2:
        raise NoRow()
    return " ".join([str(part) for part in fate_of(yard, most=MET_MOST)])


ANSWERS = {
    "go": say_go, "down": say_down, "away": say_away, "turn": say_turn, "paint": say_paint, "swap": say_swap,
    "back": say_back, "show": say_show, "seen": say_seen, "road": say_road, "meet": say_meet, "far": say_far,
    "fate": say_fate,
}


class Desk:
    """A ground that is told rows and answers by texts."""

    def __init__(self):
        self.ground = Ground()

    def say(self, row):
        """The answer to a row; NoRow where it is none that a desk knows."""
        word, parts = read_row(row)
        if word == "yard":
            return self.lay_yard(*parts)
        answer = ANSWERS[word]
        return answer(self.ground, *parts)

    def lay_yard(self, text):
        """Begins a new ground with the yard of this text; how many engines there are."""
        # A `;` as the first or the last word has no blank on one side, so it stays a word.
        yard = read_yard(text.replace(" ; ", "\n"))
        self.ground = Ground(yard)
        return f"{len(yard)} engines"

    def __len__(self):
        return len(self.ground)
