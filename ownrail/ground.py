"""A ground: a yard kept over many deeds, each of which can be led back."""

from ownrail.beats import beats
from ownrail.engines import COLOURS, is_whole, look_engine, painted, squares_of, turned_by_hand
from ownrail.errors import Broken, Full, NoColour, NoNumber, NoRail, NoStood, NoYard, RailError
from ownrail.yards import ENGINES, ground_of, look_yard

HISTORY = 5000
# What stands behind the word of a deed, one of several: beats, a whole number, or any thing.
DEEDS = {
    "go": ("beats",),
    "down": ("any",),
    "away": ("whole",),
    "turn": ("whole",),
    "paint": ("whole", "whole", "any"),
    "swap": ("whole", "whole"),
}


def is_colour(thing):
    """Whether a thing is a colour."""
    return is_whole(thing) and 0 <= thing < COLOURS


def fits(thing, kind):
    """Whether a thing may stand where a deed has this kind."""
    if kind == "any":
        return True
    return is_whole(thing) and (kind == "whole" or thing >= 0)


def has_deed_form(thing):
    """Whether a thing is a deed, one of several, by its form."""
    if not isinstance(thing, tuple) or len(thing) == 0 or not isinstance(thing[0], str) or thing[0] not in DEEDS:
        return False
    kinds = DEEDS[thing[0]]
    return len(thing) == len(kinds) + 1 and all([fits(part, kind) for part, kind in zip(thing[1:], kinds)])


class Ground:
    """A yard, the deeds that were done to it and stand, and what stood ahead of each."""

    def __init__(self, yard=(), *, most=HISTORY):
        look_yard(yard)
        self.yard = yard
        self.most = most
        self.gone = 0
        self.rows = []
        self.elder_yards = []
        self.busy = False

    def keep(self, row, yard):
        """What a deed made of the yard stands from now on, and its row in the log."""
        self.rows.append(row)
        self.elder_yards.append(self.yard)
        self.yard = yard

    def engine_at(self, number):
        """The engine of this number."""
        if not 0 <= number < len(self.yard):
            raise NoNumber(number)
        return self.yard[number]

    def with_engine(self, number, engine):
        """The yard with this engine in place of the one of this number."""
        return self.yard[:number] + (engine,) + self.yard[number + 1:]

    def meetings_in(self, many):
        """Goes so many beats; how many meetings there were."""
        if self.gone + many > self.most:
            raise Full(self.most)
        later, meetings = beats(self.yard, many)
        self.keep(("go", many), later)
        self.gone += many
        return len(meetings)

    def go(self, many):
        """Goes so many beats."""
        self.meetings_in(many)

    def down(self, engine):
        """Lays an engine down behind the others; its number."""
        look_engine(engine)
        number = len(self.yard)
        if number >= ENGINES:
            raise NoYard("many", ENGINES)
        lying = ground_of(self.yard)
        if any([square in lying for square in squares_of(engine)]):
            raise NoYard("met", number)
        self.keep(("down", engine, number), self.yard + (engine,))
        return number

    def away(self, number):
        """Takes the engine of this number away; the engine."""
        engine = self.engine_at(number)
        self.keep(("away", number, engine), self.yard[:number] + self.yard[number + 1:])
        return engine

    def turn(self, number):
        """Lets the engine of this number look the other way."""
        engine = self.engine_at(number)
        self.keep(("turn", number), self.with_engine(number, turned_by_hand(engine)))

    def paint(self, number, place, colour):
        """Paints the rail at this place of the engine of this number; its elder colour."""
        engine = self.engine_at(number)
        x, y, way, look, rails = engine
        if not 0 <= place < len(rails):
            raise NoRail(number, place)
        if not is_colour(colour):
            raise NoColour(colour)
        shape, elder = rails[place]
        self.keep(("paint", number, place, elder, colour), self.with_engine(number, painted(engine, place, colour)))
        return elder

    def swap(self, one, other):
        """Lets the engines of these numbers exchange them."""
        first, second = self.engine_at(one), self.engine_at(other)
        engines = list(self.yard)
        engines[one], engines[other] = second, first
        self.keep(("swap", one, other), tuple(engines))

    def back(self):
        """Takes the last deed that stands back; whether there was one."""
        if len(self.rows) == 0:
            return False
        row = self.rows.pop()
        self.yard = self.elder_yards.pop()
        if row[0] == "go":
            self.gone -= row[1]
        return True

    def several(self, deeds, *, whole=True):
        """Does the deeds one behind the other; a list of what each told. Broken leaves none of them, if whole."""
        told = []
        self.busy = True
        try:
            for at, deed in enumerate(deeds):
                told.append(self.one_of_several(at, deed))
            return told
        except Broken:
            if whole:
                for done in told:
                    self.back()
            raise
        finally:
            self.busy = False

    def one_of_several(self, at, deed):
        """Does the deed of this number among several; what it told."""
        if not has_deed_form(deed):
            raise Broken(at)
        try:
            return self.do_deed(deed)
        except (RailError, NoNumber, NoRail):
            raise Broken(at) from None

    def do_deed(self, deed):
        """Does a deed, told as one of several; what it told."""
        word, *parts = deed
        if word == "go":
            return self.go(*parts)
        if word == "down":
            return self.down(*parts)
        if word == "away":
            return self.away(*parts)
        if word == "turn":
            return self.turn(*parts)
        if word == "paint":
            return self.paint(*parts)
        return self.swap(*parts)

    def standing(self):
        """The yard."""
        return self.yard

    def beats_gone(self):
        """How many beats were gone and not led back."""
        return self.gone

    def log(self):
        """A list of a row for each deed that stands."""
        return list(self.rows)

    def stood(self, k):
        """The yard ahead of the deed of the log's k-th row, or the yard where k is how many rows there are."""
        if not 0 <= k <= len(self.rows):
            raise NoStood(k)
        return self.yard if k == len(self.rows) else self.elder_yards[k]

    def is_open(self):
        """Whether no deeds are under way."""
        return not self.busy

    def __len__(self):
        return len(self.rows)

    def __eq__(self, other):
        return isinstance(other, Ground) and self.yard == other.yard

    def __repr__(self):
        return f"Ground({len(self.yard)}, {self.gone})"
