"""The texts of engines and yards: shown, and read back."""

from ownrail.engines import FAR, RAILS, squares_of
from ownrail.errors import NoText
from ownrail.squares import TURNS, onward, way_on
from ownrail.yards import ENGINES

FIGURES = "0123456789"
WAY_WORDS = ("n", "e", "s", "w")
LOOK_WORDS = {"f": 1, "b": -1}
# How many words stand ahead of the rails' words.
HEAD = 4


def show_engine(engine):
    """The engine's text."""
    x, y, way, look, rails = engine
    words = [str(x), str(y), WAY_WORDS[way], "f" if look == 1 else "b"]
    return " ".join(words + [f"{shape}{colour}" for shape, colour in rails])


def show_yard(yard):
    """The yard's text, a row for each engine."""
    return "\n".join([show_engine(engine) for engine in yard])


def read_whole(word, bound):
    """The whole number of this word, at most bound either way, or None."""
    figures = word[1:] if word.startswith("-") else word
    if figures == "" or any([sign not in FIGURES for sign in figures]):
        return None
    if word == "-0" or (figures[0] == "0" and figures != "0"):
        return None
    # Python makes no number of some thousands of figures, so these may not come to int.
    if len(figures) > len(str(bound)):
        return None
    number = int(word)
    return number if abs(number) <= bound else None


def read_head(at, word):
    """What stands at this place ahead of the rails: x, y, way or look."""
    if at < 2:
        part = read_whole(word, FAR)
    elif at == 2:
        part = WAY_WORDS.index(word) if word in WAY_WORDS else None
    else:
        part = LOOK_WORDS.get(word)
    if part is None:
        raise NoText(at)
    return part


def read_rail(word):
    """The rail of this word, or None."""
    if len(word) != 2 or word[0] not in TURNS or word[1] not in FIGURES:
        return None
    return (word[0], int(word[1]))


def read_rails(square, way, words):
    """The rails of these words, the last of them on this square, come onto by way."""
    rails = []
    squares = []
    for at, word in enumerate(words):
        rail = read_rail(word)
        if at == RAILS or rail is None or square in squares:
            raise NoText(HEAD + at)
        rails.append(rail)
        squares.append(square)
        way = way_on(way, rail[0])
        square = onward(square, way)
    return tuple(rails)


def read_engine(text):
    """The engine of this text; NoText with the number of the first word that can't stand there."""
    words = text.split(" ")
    head = [read_head(at, word) for at, word in enumerate(words[:HEAD])]
    if len(words) <= HEAD:
        raise NoText(len(words))
    x, y, way, look = head
    return (x, y, way, look, read_rails((x, y), way, words[HEAD:]))


def read_row(row, at):
    """The engine of the row of this number."""
    try:
        return read_engine(row)
    except NoText:
        raise NoText(at) from None


def read_yard(text):
    """The yard of this text; NoText with the number of the first row that can't stand there."""
    rows = text.split("\n") if text != "" else []
    engines = []
    taken = {}
    for at, row in enumerate(rows):
        if at == ENGINES:
            raise NoText(at)
        engine = read_row(row, at)
        for square in squares_of(engine):
            if square in taken:
                raise NoText(at)
            taken[square] = True
        engines.append(engine)
    return tuple(engines)
