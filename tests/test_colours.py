"""Point [15]: from which rail each colour came; and what point [3] says of it."""

import copy
import inspect
import unittest
from random import Random

from ownrail import colours
from ownrail.beats import beats
from ownrail.colours import origins_of
from yard_samples import COLUMN, engine_of, random_yard, sample_yards, slow_turn


def slow_origins(yard, many):
    """Marks kept by squares: rails that are laid carry theirs, rails that meet exchange theirs."""
    marks = [[(number, place) for place in range(len(engine[4]))] for number, engine in enumerate(yard)]
    for gone in range(many):
        for number in range(len(yard)):
            look, rails = yard[number][3], len(yard[number][4])
            yard, meeting = slow_turn(yard, number)
            if meeting is None and look == 1:
                marks[number] = marks[number][1:] + marks[number][:1]
            elif meeting is None:
                marks[number] = marks[number][-1:] + marks[number][:-1]
            else:
                near, (other, rail) = rails - 1 if look == 1 else 0, meeting[2:]
                marks[number][near], marks[other][rail] = marks[other][rail], marks[number][near]
    return tuple(tuple(row) for row in marks)


def painted_anew(yard, seed):
    chance = Random(seed)
    return tuple((x, y, way, look, tuple((shape, chance.randint(0, 9)) for shape, colour in rails))
                 for x, y, way, look, rails in yard)


def colours_told(yard):
    return tuple(tuple(colour for shape, colour in engine[4]) for engine in yard)


def marks_told(yard):
    return [(number, place) for number, engine in enumerate(yard) for place in range(len(engine[4]))]


class ByHand(unittest.TestCase):
    def test_no_engines(self):
        for many in (0, 1, 50):
            self.assertEqual(origins_of((), many), ())

    def test_no_beats(self):
        yard = (engine_of(0, 0, 0, 1, "sl"), engine_of(5, 5, 1, -1, "r"))
        self.assertEqual(origins_of(yard, 0), (((0, 0), (0, 1)), ((1, 0),)))

    def test_a_rail_that_is_laid_keeps_its_colour(self):
        self.assertEqual(origins_of((engine_of(0, 0, 0, 1, "sss"),), 1), (((0, 1), (0, 2), (0, 0)),))
        self.assertEqual(origins_of((engine_of(0, 0, 0, -1, "sss"),), 1), (((0, 2), (0, 0), (0, 1)),))
        self.assertEqual(origins_of((engine_of(0, 0, 0, 1, "sss"),), 3), (((0, 0), (0, 1), (0, 2)),))

    def test_exchanged_with_another(self):
        one, other = engine_of(0, 0, 0, 1, "ss"), engine_of(-1, 2, 1, 1, "sss")
        # The first is turned; its rail at place 1 and the other's at place 1 exchange colours; the other goes on.
        self.assertEqual(origins_of((one, other), 1), (((0, 0), (1, 1)), ((0, 1), (1, 2), (1, 0))))

    def test_exchanged_with_itself(self):
        engine = engine_of(0, 0, 1, 1, "ssslll")
        self.assertEqual(origins_of((engine,), 1), (((0, 0), (0, 1), (0, 5), (0, 3), (0, 4), (0, 2)),))

    def test_exchanged_twice_in_one_beat(self):
        yard = (engine_of(0, 0, 0, 1, "s"), engine_of(0, 1, 2, 1, "s"))
        self.assertEqual(origins_of(yard, 1), (((0, 0),), ((1, 0),)))


class Sampled(unittest.TestCase):
    def test_against_the_slow_way(self):
        for yard in sample_yards(51, each=1):
            for many in (0, 1, 2, 20):
                self.assertEqual(origins_of(yard, many), slow_origins(yard, many))

    def test_each_is_there_just_once(self):
        for yard in sample_yards(52):
            for many in (0, 1, 7, 150):
                told = origins_of(yard, many)
                self.assertEqual([len(row) for row in told], [len(engine[4]) for engine in yard])
                self.assertEqual(sorted(mark for row in told for mark in row), marks_told(yard))

    def test_the_colours_behind_are_those_of_the_rails_told(self):
        for yard in sample_yards(53):
            for many in (0, 1, 30, 200):
                told = origins_of(yard, many)
                for seed in range(2):
                    painted = painted_anew(yard, seed)
                    expected = tuple(tuple(painted[number][4][place][1] for number, place in row) for row in told)
                    self.assertEqual(colours_told(beats(painted, many)[0]), expected)

    def test_colours_decide_nothing(self):
        for yard in sample_yards(54, each=1):
            told = origins_of(yard, 60)
            for seed in range(3):
                self.assertEqual(origins_of(painted_anew(yard, seed), 60), told)

    def test_put_together(self):
        for yard in sample_yards(55):
            for first, second in ((0, 5), (5, 0), (1, 1), (20, 31), (100, 7)):
                early, late = origins_of(yard, first), origins_of(beats(yard, first)[0], second)
                together = tuple(tuple(early[number][place] for number, place in row) for row in late)
                self.assertEqual(origins_of(yard, first + second), together)

    def test_many_beats(self):
        yard = random_yard(Random(56), 8)
        told = origins_of(yard, 5000)
        later = beats(yard, 5000)[0]
        expected = tuple(tuple(yard[number][4][place][1] for number, place in row) for row in told)
        self.assertEqual(colours_told(later), expected)

    def test_colours_are_exchanged_among_the_samples(self):
        moved = [yard for yard in sample_yards(52) if any(
            mark[0] != number for number, row in enumerate(origins_of(yard, 150)) for mark in row)]
        self.assertGreater(len(moved), 20)


class Kept(unittest.TestCase):
    def test_what_was_handed_in_is_as_it_was(self):
        for yard in sample_yards(57, each=1):
            copied = copy.deepcopy(yard)
            told = origins_of(yard, 20)
            self.assertEqual(yard, copied)
            origins_of(COLUMN, 3)
            self.assertEqual(origins_of(yard, 20), told)

    def test_tuples_are_told(self):
        told = origins_of(COLUMN, 20)
        self.assertIs(type(told), tuple)
        self.assertEqual({type(row) for row in told}, {tuple})
        self.assertEqual({type(mark) for row in told for mark in row}, {tuple})

    def test_names_of_the_arguments(self):
        self.assertEqual(str(inspect.signature(colours.origins_of)), "(yard, many)")
        self.assertEqual(origins_of(many=9, yard=COLUMN), origins_of(COLUMN, 9))


if __name__ == "__main__":
    unittest.main()
