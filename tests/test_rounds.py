"""Point [16]: bones, and how long it takes till a yard's bones, and its colours, are the same again."""

import copy
import inspect
import unittest
from random import Random

from ownrail import rounds
from ownrail.beats import beat, beats
from ownrail.errors import TooLong
from ownrail.rounds import ROUND, bones_of, round_of_yard
from ownrail.texts import read_yard
from yard_samples import COLUMN, engine_of, random_yard, sample_yards, slow_squares

WHEEL = engine_of(0, 0, 0, 1, "rrrr")
# Its round is 12 places, but its bones are the same each 4 beats, its colours behind 3 of these.
THREE = engine_of(0, 0, 0, 1, "rrr")

MANY_TIMES = (
    ((4, 15), "-2 0 e f l9\n1 -1 s b l2 l7 l6\n0 0 n b s9 l3 l3 r1\n-1 2 n f r4"),
    ((6, 7), "-1 1 w b r2 r1 r0\n-2 2 w f s8 l8\n-2 1 w f s1 l0 l9"),
    ((2, 2), "-1 -4 s f r4 l1 r9 r3 r3\n-1 -3 n f r3 s9 l9 l4 l2"),
    ((16, 30), "-3 0 w b l5\n2 0 n f r0 r9 s8 r2 r8\n2 -1 n b l3 s8 l2\n-1 0 n b l5 l7 s5 s8 l4"),
    ((20, 15), "-1 2 n b l4 l0 r5 l9 s2\n0 2 e b s4 l6 s5 l3 s7 l2"),
    ((140, 105), "-1 2 n b s9 r3 s1 r0 l6 r8\n1 -2 w b l1 s2\n1 1 s b r6 l7 l0\n-1 1 n f l4 l5 l5\n"
                 "2 -1 w f r2 r0 r6 s7 s0 s5"),
)


def slow_bones(yard):
    return tuple((x, y, way, look, tuple((shape, 0) for shape, colour in rails)) for x, y, way, look, rails in yard)


def slow_rounds(yard, most):
    """(round, times) by single beats of the yard itself, or None where either is more than most."""
    bones, now, gone = slow_bones(yard), yard, 0
    many = None
    while many is None or gone < many * most:
        now = beat(now)[0]
        gone += 1
        if many is None and slow_bones(now) == bones:
            many = gone
        if now == yard:
            return (many, gone // many)
        if many is None and gone == most:
            return None
    return None


def with_one_colour(yard, colour):
    return tuple((x, y, way, look, tuple((shape, colour) for shape, elder in rails)) for x, y, way, look, rails in yard)


def closed_yards(seed, many):
    """Small yards that come back to themselves within some beats: rings and wheels, and one between two wheels."""
    chance = Random(seed)
    found = [(WHEEL,), (THREE,), COLUMN, (engine_of(0, 0, 0, 1, "l"), engine_of(9, 9, 1, -1, "rr"))]
    while len(found) < many:
        yard = random_yard(chance, chance.randint(1, 4), 3, 4)
        if slow_rounds(yard, 60) is not None:
            found.append(yard)
    return found


class Rounds(unittest.TestCase):
    def too_long(self, yard, most):
        with self.assertRaises(TooLong) as caught:
            round_of_yard(yard, most=most)
        self.assertEqual(caught.exception.most, most)

    def check_most(self, yard, many, times):
        """Told with most just as much as is needed, refused by one less."""
        needed = max(many, times)
        self.assertEqual(round_of_yard(yard, most=needed), (many, times))
        self.assertEqual(round_of_yard(yard, most=needed + 1), (many, times))
        if needed > 1:
            self.too_long(yard, needed - 1)

    def test_no_engines(self):
        self.assertEqual(round_of_yard(()), (1, 1))
        self.assertEqual(round_of_yard((), most=1), (1, 1))

    def test_by_hand(self):
        for yard, told in (
                ((WHEEL,), (4, 1)), ((THREE,), (4, 3)), (with_one_colour((THREE,), 7), (4, 1)),
                ((engine_of(0, 0, 0, 1, "l"),), (4, 1)), ((engine_of(0, 0, 0, 1, "rr"),), (4, 1)),
                ((engine_of(0, 0, 0, -1, "ssr"),), (12, 1)),
                ((engine_of(0, 0, 0, 1, "l"), engine_of(9, 9, 1, -1, "ssr")), (12, 1)),
                ((engine_of(0, 0, 0, 1, "rrr"), engine_of(9, 9, 1, -1, "ssr")), (12, 1))):
            self.assertEqual(round_of_yard(yard), told, yard)
            self.check_most(yard, *told)

    def test_the_least_number_of_rounds_for_colours_as_they_are(self):
        # Of its three colours two are alike, so it takes all three rounds; three alike take one.
        for row, times in (((1, 1, 2), 3), ((1, 2, 1), 3), ((1, 1, 1), 1), ((1, 2, 3), 3)):
            engine = (0, 0, 0, 1, tuple(("r", colour) for colour in row))
            self.assertEqual(round_of_yard((engine,)), (4, times))

    def test_to_and_fro_between_two_wheels(self):
        told = slow_rounds(COLUMN, 2000)
        self.assertEqual(round_of_yard(COLUMN), told)
        self.check_most(COLUMN, *told)

    def test_against_single_beats(self):
        many_times = 0
        for yard in closed_yards(61, 60):
            told = slow_rounds(yard, 60)
            self.assertEqual(round_of_yard(yard), told, yard)
            self.check_most(yard, *told)
            many_times += told[1] > 1
        self.assertGreater(many_times, 5)

    def test_colours_alike_take_one_time(self):
        for yard in closed_yards(62, 30):
            many, times = round_of_yard(yard)
            self.assertEqual(round_of_yard(with_one_colour(yard, 3)), (many, 1))
            self.assertEqual(round_of_yard(bones_of(yard)), (many, 1))

    def test_behind_the_rounds_it_is_the_yard(self):
        for yard in closed_yards(63, 30):
            many, times = round_of_yard(yard)
            self.assertEqual(beats(yard, many * times)[0], yard)
            self.assertEqual(bones_of(beats(yard, many)[0]), bones_of(yard))
            for gone in range(1, many):
                self.assertNotEqual(bones_of(beats(yard, gone)[0]), bones_of(yard))
            for time in range(1, times):
                self.assertNotEqual(beats(yard, many * time)[0], yard)

    def test_a_round_of_more_than_most(self):
        drift = (engine_of(0, 0, 0, 1, "s"),)
        for most in (1, 2, 100, 5000):
            self.too_long(drift, most)
        with self.assertRaises(TooLong) as caught:
            round_of_yard(drift)
        self.assertEqual(caught.exception.most, 5000)
        self.too_long((WHEEL,), 3)

    def test_more_times_than_most(self):
        for told, text in MANY_TIMES:
            yard = read_yard(text)
            self.assertEqual(slow_rounds(yard, 200), told)
            self.check_most(yard, *told)
            self.assertEqual(round_of_yard(yard), told)
        self.assertGreater(len([told for told, text in MANY_TIMES if told[1] > told[0]]), 2)

    def test_it_is_the_same_from_each_yard_of_the_round(self):
        for yard in closed_yards(65, 12):
            for gone in (1, 2, 5):
                self.assertEqual(round_of_yard(beats(yard, gone)[0])[0], round_of_yard(yard)[0])


class Bones(unittest.TestCase):
    def test_by_hand(self):
        self.assertEqual(bones_of(()), ())
        self.assertEqual(bones_of((engine_of(4, -2, 0, 1, "slr", 7),)), ((4, -2, 0, 1, (("s", 0), ("l", 0), ("r", 0))),))

    def test_all_colours_are_0(self):
        for yard in sample_yards(66):
            told = bones_of(yard)
            self.assertEqual(told, slow_bones(yard))
            self.assertEqual(bones_of(told), told)
            self.assertEqual([slow_squares(engine) for engine in told], [slow_squares(engine) for engine in yard])

    def test_tuples_are_told(self):
        told = bones_of(COLUMN)
        self.assertEqual({type(part) for part in (told, *told)}, {tuple})
        self.assertEqual({type(rail) for engine in told for rail in engine[4]}, {tuple})
        self.assertEqual({type(engine[4]) for engine in told}, {tuple})
        self.assertEqual([type(part) for part in (round_of_yard(COLUMN), *round_of_yard(COLUMN))], [tuple, int, int])


class Kept(unittest.TestCase):
    def test_what_was_handed_in_is_as_it_was(self):
        for yard in closed_yards(67, 12):
            copied = copy.deepcopy(yard)
            told = round_of_yard(yard)
            bones_of(yard)
            self.assertEqual(yard, copied)
            round_of_yard((WHEEL,))
            self.assertEqual(round_of_yard(yard), told)

    def test_names_of_the_arguments(self):
        self.assertEqual((ROUND, type(ROUND)), (5000, int))
        self.assertEqual(str(inspect.signature(rounds.round_of_yard)), "(yard, *, most=5000)")
        self.assertEqual(str(inspect.signature(rounds.bones_of)), "(yard)")
        self.assertEqual(round_of_yard(yard=(WHEEL,), most=4), (4, 1))
        self.assertEqual(bones_of(yard=()), ())

    def test_most_by_name_alone(self):
        with self.assertRaises(TypeError):
            round_of_yard((WHEEL,), 4)


if __name__ == "__main__":
    unittest.main()
