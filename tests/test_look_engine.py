"""Point [5]: any thing looked at is an engine, or refused with the first word that is due."""

import unittest
from itertools import combinations, product

from ownrail.engines import COLOURS, RAILS, look_engine
from ownrail.errors import NoEngine
from samples import ANY_THINGS, FAR, LOOKS, NOT_WHOLE, SHAPES, WAYS, WHOLE, long_engines, nested, rails_of

BEYOND = (FAR + 1, -FAR - 1, 2 * FAR, 10 ** 30, -(10 ** 30))
NO_SHAPES = ("", "L", "S", "R", "x", " ", "ls", "sr", "lsr", "s ", "0", "\n")
NO_COLOURS = (-1, 10, 11, -10, 10 ** 30, -(10 ** 30))


def put(row, at, thing):
    return row[:at] + (thing,) + row[at + 1:]


class Looked(unittest.TestCase):
    def refused(self, thing, word):
        with self.assertRaises(NoEngine, msg=repr(thing)) as caught:
            look_engine(thing)
        self.assertEqual(caught.exception.word, word, repr(thing))


class True_(Looked):
    def test_numbers(self):
        self.assertEqual((RAILS, COLOURS), (12, 10))
        self.assertEqual((type(RAILS), type(COLOURS)), (int, int))

    def test_one_to_twelve_rails(self):
        for many, way, look in product(range(1, 13), WAYS, LOOKS):
            for x, y in product((0, 1, -1, FAR, -FAR), repeat=2):
                for shapes in ("s" * many, ("lr" * 6)[:many], ("srl" * 4)[:many]):
                    self.assertIs(look_engine((x, y, way, look, rails_of(shapes))), True)

    def test_long_engines(self):
        for engine in long_engines():
            self.assertIs(look_engine(engine), True, engine)

    def test_all_short_shapes(self):
        for many in range(1, 5):
            for shapes in product(SHAPES, repeat=many):
                self.assertIs(look_engine((0, 0, 1, -1, rails_of(shapes))), True, shapes)

    def test_all_colours(self):
        for colour, shape in product(range(10), SHAPES):
            self.assertIs(look_engine((0, 0, 0, 1, ((shape, colour),))), True)
            self.assertIs(look_engine((0, 0, 0, 1, (("s", 0), (shape, colour)))), True)

    def test_by_name(self):
        self.assertIs(look_engine(thing=(0, 0, 0, 1, (("s", 0),))), True)

    def test_the_bound_is_of_the_last_rail_alone(self):
        self.assertIs(look_engine((FAR, 0, 1, 1, rails_of("s" * 12))), True)
        self.assertIs(look_engine((0, -FAR, 2, -1, rails_of("s" * 12))), True)

    def test_near_ones_that_lie_once(self):
        # The road comes back onto its begin with the next rail, which isn't there.
        self.assertIs(look_engine((0, 0, 0, 1, rails_of("rrrr"))), True)
        self.assertIs(look_engine((0, 0, 0, 1, rails_of("slsslsslssls"[:10]))), True)


class Form(Looked):
    GOOD = (3, -2, 1, -1, rails_of("srl"))

    def test_no_tuple_of_five(self):
        for thing in ANY_THINGS:
            self.refused(thing, "form")
        self.refused(self.GOOD[:4], "form")
        self.refused(self.GOOD + (0,), "form")
        self.refused((self.GOOD,), "form")
        self.refused(self.GOOD[:4] + self.GOOD[4], "form")

    def test_x_y_way_look_no_whole_number(self):
        for at, thing in product(range(4), NOT_WHOLE):
            self.refused(put(self.GOOD, at, thing), "form")

    def test_rails_no_tuple(self):
        for thing in ANY_THINGS:
            self.refused(put(self.GOOD, 4, thing), "form")

    def test_how_many_rails(self):
        self.refused(put(self.GOOD, 4, ()), "form")
        for many in (13, 14, 100):
            self.refused(put(self.GOOD, 4, rails_of("s" * many)), "form")
        for many in (1, 12):
            self.assertIs(look_engine(put(self.GOOD, 4, rails_of("s" * many))), True)

    def test_a_rail_no_tuple_of_two(self):
        no_rails = [thing for thing in ANY_THINGS if thing != ("s", 0)]
        no_rails += ["s0", ("s",), ("s", 0, 0), (0, "s"), (("s", 0),), (("s", 0), ("s", 0))]
        for many in (1, 2, 12):
            for at, thing in product(range(many), no_rails):
                self.refused(put(self.GOOD, 4, put(rails_of("s" * many), at, thing)), "form")

    def test_a_shape_no_text(self):
        no_texts = [thing for thing in ANY_THINGS if not isinstance(thing, str)]
        for many in (1, 2, 12):
            for at, thing in product(range(many), no_texts):
                self.refused(put(self.GOOD, 4, put(rails_of("s" * many), at, (thing, 0))), "form")

    def test_a_colour_no_whole_number(self):
        for many in (1, 2, 12):
            for at, thing in product(range(many), NOT_WHOLE):
                self.refused(put(self.GOOD, 4, put(rails_of("s" * many), at, ("s", thing))), "form")

    def test_form_ahead_of_all_else(self):
        worst = (FAR + 1, FAR + 1, 4, 0, (("x", 10),) * 12)
        self.refused(worst, "far")
        for at in range(4):
            self.refused(put(worst, at, True), "form")
        self.refused(put(worst, 4, (("x", 10),) * 13), "form")
        self.refused(put(worst, 4, (("x", 10),) * 11 + (("x", False),)), "form")
        self.refused(put(worst, 4, (("x", 10),) * 11 + ((0, 10),)), "form")


class Values(Looked):
    GOOD = (0, 0, 0, 1, rails_of("ssrsslssrssl"))

    def test_far(self):
        for thing in BEYOND:
            self.refused(put(self.GOOD, 0, thing), "far")
            self.refused(put(self.GOOD, 1, thing), "far")
            self.refused(put(put(self.GOOD, 0, thing), 1, thing), "far")
        for at, thing in product((0, 1), (FAR, -FAR)):
            self.assertIs(look_engine(put(self.GOOD, at, thing)), True)

    def test_way(self):
        for thing in WHOLE + (2, 3, 4, 5, -2, -4):
            if thing in WAYS:
                self.assertIs(look_engine(put(self.GOOD, 2, thing)), True)
            else:
                self.refused(put(self.GOOD, 2, thing), "way")

    def test_look(self):
        for thing in WHOLE + (2, -2, 3):
            if thing in LOOKS:
                self.assertIs(look_engine(put(self.GOOD, 3, thing)), True)
            else:
                self.refused(put(self.GOOD, 3, thing), "look")

    def test_shape_at_each_place(self):
        for many in range(1, 13):
            for at, shape in product(range(many), NO_SHAPES):
                rails = put(self.GOOD[4][:many], at, (shape, 0))
                self.refused(put(self.GOOD, 4, rails), "shape")

    def test_colour_at_each_place(self):
        for many in range(1, 13):
            for at, colour in product(range(many), NO_COLOURS):
                rails = self.GOOD[4][:many]
                self.refused(put(self.GOOD, 4, put(rails, at, (rails[at][0], colour))), "colour")

    def test_shape_ahead_of_colour_whatever_their_places(self):
        for one, other in product(range(12), repeat=2):
            rails = put(self.GOOD[4], one, (self.GOOD[4][one][0], 10))
            rails = put(rails, other, ("x", rails[other][1]))
            self.refused(put(self.GOOD, 4, rails), "shape")


class Twice(Looked):
    def test_a_ring_of_four_at_each_place(self):
        for ahead, bend, way, look in product(range(8), "lr", WAYS, LOOKS):
            for behind in range(8 - ahead):
                shapes = "s" * ahead + "s" + bend * 3 + "s" * (behind + 1)
                self.refused((2, 5, way, look, rails_of(shapes)), "twice")

    def test_first_and_last_of_twelve(self):
        # Eleven rails go round a ring of ten squares, so the last square is the first one.
        self.refused((0, 0, 0, 1, rails_of("ssrsrssrsrs")), "twice")
        self.assertIs(look_engine((0, 0, 0, 1, rails_of("ssrsrssrsr"))), True)

    def test_a_crossing(self):
        self.refused((0, 0, 1, 1, rails_of("ssslslslss")), "twice")

    def test_same_squares_unlike_colours(self):
        self.refused((0, 0, 0, 1, (("s", 0), ("r", 1), ("r", 2), ("r", 3), ("s", 4))), "twice")

    def test_far_out(self):
        self.refused((FAR, -FAR, 0, 1, rails_of("srrrs")), "twice")


class FirstWord(Looked):
    ORDER = ("form", "far", "way", "look", "shape", "colour", "twice")

    def spoiled(self, words):
        """An engine for which all of these words are due, and none but these."""
        shapes = "srrrsss" if "twice" in words else "srrssss"
        rails = rails_of(shapes)
        # The shape goes wrong behind the ring, so that two rails lie on one square all the same.
        rails = put(rails, 6, ("x", 0)) if "shape" in words else rails
        rails = put(rails, 0, ("s", 10)) if "colour" in words else rails
        rails = put(rails, 5, ("s", None)) if "form" in words else rails
        x = FAR + 1 if "far" in words else FAR
        return (x, 0, 4 if "way" in words else 3, 0 if "look" in words else -1, rails)

    def test_all_of_several(self):
        for many in range(1, len(self.ORDER) + 1):
            for words in combinations(self.ORDER, many):
                self.refused(self.spoiled(words), words[0])
        self.assertIs(look_engine(self.spoiled(())), True)

    def test_depth(self):
        self.refused((0, 0, 0, 1, nested(11)), "form")
        self.refused((0, 0, 0, 1, (("s", nested(9)),)), "form")

    def test_asked_again(self):
        thing = self.spoiled(("look", "twice"))
        self.refused(thing, "look")
        look_engine(self.spoiled(()))
        self.refused(thing, "look")


if __name__ == "__main__":
    unittest.main()
