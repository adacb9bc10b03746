"""Points [12] and [14]: any thing looked at as a yard, what lies where, the ground, turned about."""

import copy
import inspect
import unittest
from itertools import combinations, product

from ownrail import yards
from ownrail.errors import NoYard
from ownrail.yards import ENGINES, ground_of, look_yard, turned_about, what_lies
from samples import ANY_THINGS, FAR, LOOKS, nested
from yard_samples import engine_of, sample_yards, slow_ground, slow_squares

# Eight engines that are far from one another, of 1 to 8 rails.
EIGHT = tuple(engine_of(20 * number, -3 * number, number % 4, LOOKS[number % 2], ("srl" * 4)[:number + 1], number)
              for number in range(8))
ORDER = ("form", "far", "way", "look", "shape", "colour", "twice")


def put(row, at, thing):
    return row[:at] + (thing,) + row[at + 1:]


def spoiled(words):
    """An engine for which all of these of 5's words are due, and none but these; far from EIGHT."""
    rails = engine_of(0, 0, 0, 1, "srrrsss" if "twice" in words else "srrssss")[4]
    rails = put(rails, 6, ("x", 0)) if "shape" in words else rails
    rails = put(rails, 0, ("s", 10)) if "colour" in words else rails
    rails = put(rails, 5, ("s", None)) if "form" in words else rails
    x = FAR + 1 if "far" in words else FAR
    return (x, 0, 4 if "way" in words else 3, 0 if "look" in words else -1, rails)


class Looked(unittest.TestCase):
    def refused(self, thing, word, number):
        with self.assertRaises(NoYard, msg=repr(thing)) as caught:
            look_yard(thing)
        self.assertEqual((caught.exception.word, caught.exception.number), (word, number), repr(thing))

    def test_none_to_eight_engines(self):
        self.assertEqual((ENGINES, type(ENGINES)), (8, int))
        for many in range(9):
            self.assertIs(look_yard(EIGHT[:many]), True)
            self.assertIs(look_yard(EIGHT[8 - many:]), True)
        for yard in sample_yards(11):
            self.assertIs(look_yard(yard), True, yard)

    def test_no_tuple(self):
        for thing in ANY_THINGS:
            if not isinstance(thing, tuple):
                self.refused(thing, "form", 0)

    def test_tuples_of_any_things(self):
        for thing in ANY_THINGS:
            for many in range(1, 9):
                self.refused((thing,) * many, "form", 0)
            for at in range(8):
                self.refused(put(EIGHT, at, thing), "form", at)
        self.assertIs(look_yard(()), True)
        self.refused(nested(12), "form", 0)

    def test_an_engine_is_no_yard(self):
        self.refused(EIGHT[0], "form", 0)

    def test_more_than_eight(self):
        for many in (9, 10, 11, 20, 100):
            self.refused((EIGHT * 13)[:many], "many", 8)
            self.refused((None,) * many, "many", 8)
            self.refused(EIGHT + (EIGHT[0],) * (many - 8), "many", 8)
            self.refused(tuple(engine_of(20 * at, 0, 0, 1, "s") for at in range(many)), "many", 8)
            self.refused((spoiled(ORDER),) * many, "many", 8)

    def test_each_word_with_each_number(self):
        for many in range(1, 9):
            for at, word in product(range(many), ORDER):
                self.refused(put(EIGHT[:many], at, spoiled((word,))), word, at)

    def test_the_first_word_of_an_engine(self):
        for length in range(1, len(ORDER) + 1):
            for words in combinations(ORDER, length):
                self.refused(put(EIGHT, 5, spoiled(words)), words[0], 5)

    def test_the_first_engine_counts(self):
        for one, other in product(range(8), repeat=2):
            for first, second in product(ORDER, repeat=2):
                if one < other:
                    yard = put(put(EIGHT, one, spoiled((first,))), other, spoiled((second,)))
                    self.refused(yard, first, one)

    def test_met_at_each_number(self):
        for one, other in product(range(8), repeat=2):
            if one == other:
                continue
            for x, y in slow_squares(EIGHT[one]):
                yard = put(EIGHT, other, engine_of(x, y, 2, -1, "s"))
                self.refused(yard, "met", max(one, other))

    def test_met_by_any_of_its_rails(self):
        # Its rails lie in a row from (40, 50) to (51, 50); each in turn is on the square of the engine ahead.
        for at in range(12):
            yard = (EIGHT[0], engine_of(40 + at, 50, 0, 1, "s"), engine_of(40, 50, 1, 1, "s" * 12))
            self.refused(yard, "met", 2)
        for at in (-1, 12):
            yard = (EIGHT[0], engine_of(40 + at, 50, 0, 1, "s"), engine_of(40, 50, 1, 1, "s" * 12))
            self.assertIs(look_yard(yard), True)

    def test_met_or_another_word(self):
        met = EIGHT[:2] + (engine_of(0, 0, 0, 1, "s"),)
        self.refused(met, "met", 2)
        for word in ORDER:
            # An engine's own words ahead of met, those of engines behind it not.
            self.refused(met + (spoiled((word,)),), "met", 2)
            for at in (0, 1):
                self.refused(put(met, at, spoiled((word,))), word, at)
        for word, engine in (("way", (0, 0, 4, 1, (("s", 0),))), ("look", (0, 0, 0, 2, (("s", 0),))),
                             ("colour", (0, 0, 0, 1, (("s", 10),))), ("shape", (0, 0, 0, 1, (("x", 0),))),
                             ("twice", engine_of(0, 0, 0, 1, "srrrs")), ("form", (0, 0, 0, 1, ()))):
            self.refused((EIGHT[0], engine), word, 1)

    def test_the_first_that_is_met(self):
        self.refused((EIGHT[0], EIGHT[1], EIGHT[1], EIGHT[0]), "met", 2)
        self.refused((EIGHT[0], EIGHT[0], EIGHT[1], EIGHT[1]), "met", 1)
        self.refused((EIGHT[0],) * 8, "met", 1)

    def test_far_out(self):
        corner = engine_of(FAR, -FAR, 1, 1, "ss")
        self.assertIs(look_yard((corner, engine_of(FAR, FAR, 1, 1, "ss"))), True)
        self.refused((corner, engine_of(FAR + 1, -FAR, 1, 1, "s")), "far", 1)
        self.refused((corner, engine_of(FAR, 1 - FAR, 2, 1, "lrs")), "met", 1)


class Lies(unittest.TestCase):
    def test_by_hand(self):
        yard = (engine_of(4, -2, 0, 1, "slr"), engine_of(0, 0, 1, -1, "r"))
        self.assertEqual(what_lies(yard, (4, -2)), (0, 0))
        self.assertEqual(what_lies(yard, (3, -1)), (0, 2))
        self.assertEqual(what_lies(yard, (0, 0)), (1, 0))
        self.assertIsNone(what_lies(yard, (3, 0)))
        told = {(0, 0): (1, 0), (3, -1): (0, 2), (4, -2): (0, 0), (4, -1): (0, 1)}
        self.assertEqual(list(ground_of(yard).items()), list(told.items()))

    def test_each_square_and_beside(self):
        for yard in sample_yards(12):
            ground = slow_ground(yard)
            near = {(x + dx, y + dy) for x, y in ground for dx, dy in ((0, 0), (0, 1), (1, 0), (0, -1), (-1, 0))}
            for square in sorted(near)[::3]:
                self.assertEqual(what_lies(yard, square), ground.get(square))
        self.assertIsNone(what_lies((), (0, 0)))
        self.assertIsNone(what_lies(EIGHT, (FAR, -FAR)))

    def test_the_ground_rises(self):
        for yard in sample_yards(13):
            ground = ground_of(yard)
            self.assertEqual(ground, slow_ground(yard))
            self.assertEqual(list(ground), sorted(ground))
            self.assertIs(type(ground), dict)
            self.assertEqual({type(lying) for lying in ground.values()}, {tuple} if yard else set())
        self.assertEqual(ground_of(()), {})

    def test_the_ground_is_the_askers_own(self):
        told = ground_of(EIGHT)
        kept = dict(told)
        told.clear()
        told[(0, 0)] = None
        self.assertEqual(ground_of(EIGHT), kept)
        self.assertEqual(what_lies(EIGHT, (0, 0)), (0, 0))

    def test_beyond_the_bound(self):
        yard = (engine_of(10 ** 15, -(10 ** 15), 0, 1, "ss"),)
        self.assertEqual(what_lies(yard, (10 ** 15, 1 - 10 ** 15)), (0, 1))
        self.assertEqual(list(ground_of(yard)), [(10 ** 15, -(10 ** 15)), (10 ** 15, 1 - 10 ** 15)])


class TurnedAbout(unittest.TestCase):
    def test_by_hand(self):
        self.assertEqual(turned_about(()), ())
        self.assertEqual(
            turned_about((engine_of(4, -2, 0, 1, "slr"), engine_of(0, 0, 1, -1, "r"), engine_of(9, 9, 2, 1, "l", 5))),
            (engine_of(9, 9, 2, -1, "l", 5), engine_of(0, 0, 1, 1, "r"), engine_of(4, -2, 0, -1, "slr")))

    def test_twice_is_the_yard(self):
        for yard in sample_yards(14):
            turned = turned_about(yard)
            self.assertIs(type(turned), tuple)
            self.assertEqual(turned, tuple((x, y, way, -look, rails) for x, y, way, look, rails in reversed(yard)))
            self.assertEqual(turned_about(turned), yard)


class Kept(unittest.TestCase):
    def test_what_was_handed_in_is_as_it_was(self):
        for yard in sample_yards(15, each=1):
            copied = copy.deepcopy(yard)
            look_yard(yard), ground_of(yard), what_lies(yard, (0, 0)), turned_about(yard)
            self.assertEqual(yard, copied)

    def test_names_of_the_arguments(self):
        told = {"look_yard": "(thing)", "what_lies": "(yard, square)", "ground_of": "(yard)", "turned_about": "(yard)"}
        for name, arguments in told.items():
            self.assertEqual(str(inspect.signature(getattr(yards, name))), arguments)
        self.assertIs(look_yard(thing=EIGHT), True)
        self.assertEqual(what_lies(square=(0, 0), yard=EIGHT), (0, 0))
        self.assertEqual((ground_of(yard=()), turned_about(yard=())), ({}, ()))


if __name__ == "__main__":
    unittest.main()
