"""Point [24]: the fewest turnings by hand that bring an engine to a square; and what point [3] says of them."""

import copy
import inspect
import unittest
from itertools import chain, combinations, product
from random import Random

from ownrail import hands
from ownrail.beats import beat
from ownrail.errors import NoNumber
from ownrail.hands import fewest_turnings
from samples import FAR
from yard_samples import OWN_WAY, WHEEL, engine_of, random_yard, slow_beat, slow_squares

NORTH = (engine_of(0, 0, 0, 1, "s"),)


def turned(yard, numbers):
    return tuple((x, y, way, -look if number in numbers else look, rails)
                 for number, (x, y, way, look, rails) in enumerate(yard))


def behind(yard, turnings, many, run=beat):
    """The yard behind so many beats, with these turnings by hand."""
    for gone in range(many):
        yard = run(turned(yard, {number for when, number in turnings if when == gone}))[0]
    return turned(yard, {number for when, number in turnings if when == many})


def all_hands(many):
    """All sets of numbers below many."""
    return list(chain.from_iterable(combinations(range(many), size) for size in range(many + 1)))


def fewest_to_squares(yard, number, many):
    """{square: how few turnings}: of all turnings tried, one tree of yards without any two taken as one."""
    found = {}

    def go(now, gone, used):
        if gone == many:
            for square in slow_squares(now[number]):
                found[square] = min(used, found.get(square, used))
            return
        for chosen in all_hands(len(now)):
            go(beat(turned(now, chosen))[0], gone + 1, used + len(chosen))

    go(yard, 0, 0)
    return found


def near_squares(engine, many):
    """All squares so near to an engine that it may come there, and some more."""
    xs, ys = zip(*slow_squares(engine))
    return product(range(min(xs) - many - 1, max(xs) + many + 2), range(min(ys) - many - 1, max(ys) + many + 2))


class ByHand(unittest.TestCase):
    def test_so_without(self):
        self.assertEqual(fewest_turnings(NORTH, 0, (0, 3), 3), ())
        self.assertEqual(fewest_turnings(NORTH, 0, (0, 0), 0), ())
        self.assertEqual(fewest_turnings((WHEEL,), 0, (1, 0), 5), ())

    def test_by_one(self):
        self.assertEqual(fewest_turnings(NORTH, 0, (0, -3), 3), ((0, 0),))
        self.assertEqual(fewest_turnings(NORTH, 0, (0, 1), 3), ((2, 0),))
        self.assertEqual(fewest_turnings(NORTH, 0, (0, -1), 3), ((1, 0),))

    def test_by_none(self):
        for square, many in (((0, 4), 3), ((0, 2), 3), ((1, 0), 3), ((0, 1), 0), ((FAR, -FAR), 5)):
            self.assertIsNone(fewest_turnings(NORTH, 0, square, many))

    def test_several_ahead_of_one_beat(self):
        # Both must go north at once: the one behind the other has no way unless that goes on, too.
        yard = (engine_of(0, 0, 0, -1, "s"), engine_of(0, 1, 0, -1, "s"))
        self.assertEqual(fewest_turnings(yard[::-1], 1, (0, 1), 1), ((0, 0), (0, 1)))
        # In this order the first is turned by the other that is still there.
        self.assertIsNone(fewest_turnings(yard, 0, (0, 1), 1))

    def test_another_is_turned(self):
        # The first would be turned by the other, unless that is turned away ahead of it.
        yard = (engine_of(0, 5, 1, 1, "s"), engine_of(-1, 5, 1, 1, "s"))
        self.assertEqual(fewest_turnings(yard, 1, (2, 5), 3), ())
        yard = (engine_of(0, 5, 1, -1, "s"), engine_of(-2, 5, 1, 1, "s"))
        self.assertEqual(fewest_turnings(yard, 1, (1, 5), 3), ((0, 0),))

    def test_turnings_behind_the_last_beat_never_help(self):
        self.assertIsNone(fewest_turnings(NORTH, 0, (0, 1), 0))
        self.assertEqual(fewest_turnings(NORTH, 0, (0, 1), 1), ())


class AgainstAllTried(unittest.TestCase):
    def check(self, yard, number, many):
        least = fewest_to_squares(yard, number, many)
        for square in near_squares(yard[number], many):
            told = fewest_turnings(yard, number, square, many)
            if square not in least:
                self.assertIsNone(told, (yard, number, square, many))
                continue
            self.assertEqual(len(told), least[square], (yard, number, square, many))
            self.check_told(yard, number, square, many, told)
        return set(least.values())

    def check_told(self, yard, number, square, many, told):
        self.assertIs(type(told), tuple)
        # Rising, so no engine is turned twice ahead of one beat.
        self.assertEqual(list(told), sorted(set(told)))
        for turning in told:
            self.assertIs(type(turning), tuple)
            self.assertTrue(0 <= turning[0] <= many and 0 <= turning[1] < len(yard))
        self.assertIn(square, slow_squares(behind(yard, told, many)[number]))

    def test_one_engine(self):
        chance = Random(191)
        for again in range(25):
            yard = random_yard(chance, 1, 3, 12)
            for many in range(6):
                self.check(yard, 0, many)

    def test_one_engine_that_turns_itself(self):
        for look in (1, -1):
            for many in range(6):
                self.check((OWN_WAY[:3] + (look,) + OWN_WAY[4:],), 0, many)

    def test_two_engines(self):
        chance = Random(192)
        for again in range(10):
            yard = random_yard(chance, 2, 2, chance.choice((2, 4, 12)))
            for many in (0, 1, 2, 3, 4):
                self.check(yard, again % 2, many)

    def test_three_engines(self):
        chance = Random(193)
        found = set()
        for again in range(8):
            yard = random_yard(chance, 3, 2, 4)
            for many in (0, 1, 2, 3):
                found |= self.check(yard, again % 3, many)
        self.assertTrue({0, 1, 2, 3} <= found, found)

    def test_five_beats_of_two_and_three(self):
        chance = Random(194)
        self.check(random_yard(chance, 2, 2, 3), 1, 5)
        self.check(random_yard(chance, 2, 2, 6), 0, 5)
        self.check(random_yard(chance, 3, 2, 3), 0, 4)
        self.check(random_yard(chance, 3, 2, 5), 2, 5)

    def test_more_of_three_engines_and_five_beats(self):
        # Without trying all: by as many it is so, and not if one of them is left out.
        chance = Random(195)
        for again in range(4):
            yard = random_yard(chance, 3, 2, 6)
            for square in list(near_squares(yard[1], 5))[::5]:
                told = fewest_turnings(yard, 1, square, 5)
                if told is not None:
                    self.check_told(yard, 1, square, 5, told)
                    for left_out in range(len(told)):
                        fewer = told[:left_out] + told[left_out + 1:]
                        self.assertNotIn(square, slow_squares(behind(yard, fewer, 5)[1]))

    def test_by_the_slow_way(self):
        chance = Random(196)
        for again in range(20):
            yard = random_yard(chance, 3, 2, 4)
            for square in list(near_squares(yard[0], 3))[::3]:
                told = fewest_turnings(yard, 0, square, 3)
                if told is not None:
                    self.assertIn(square, slow_squares(behind(yard, told, 3, slow_beat)[0]))

    def test_far_out(self):
        yard = (engine_of(FAR, -FAR, 1, 1, "ss"), engine_of(FAR, -FAR + 1, 1, -1, "s"))
        self.assertEqual(fewest_turnings(yard, 0, (FAR + 6, -FAR), 5), ())
        self.assertEqual(fewest_turnings(yard, 0, (FAR - 5, -FAR), 5), ((0, 0),))


class Refused(unittest.TestCase):
    def test_numbers_that_are_not_there(self):
        for many in range(4):
            yard = random_yard(Random(197), many)
            for number in (-1, -2, -3, -4, many, many + 1, 8, 10 ** 30, -(10 ** 30)):
                if not 0 <= number < many:
                    for beats_gone in (0, 5):
                        with self.assertRaises(NoNumber) as caught:
                            fewest_turnings(yard, number, (0, 0), beats_gone)
                        self.assertEqual(caught.exception.number, number)


class Kept(unittest.TestCase):
    def test_colours_decide_nothing(self):
        chance = Random(198)
        for again in range(5):
            yard = random_yard(chance, 3, 2, 4)
            other = tuple((x, y, way, look, tuple((shape, chance.randint(0, 9)) for shape, colour in rails))
                          for x, y, way, look, rails in yard)
            for square in list(near_squares(yard[2], 3))[::4]:
                told, others = fewest_turnings(yard, 2, square, 3), fewest_turnings(other, 2, square, 3)
                self.assertEqual(told is None or len(told), others is None or len(others))

    def test_what_was_handed_in_is_as_it_was(self):
        yard = random_yard(Random(199), 3, 2, 5)
        copied = copy.deepcopy(yard)
        for square in list(near_squares(yard[0], 4))[::7]:
            told = fewest_turnings(yard, 0, square, 4)
            fewest_turnings(NORTH, 0, (0, -2), 2)
            self.assertEqual(yard, copied)
            self.assertEqual(fewest_turnings(yard, 0, square, 4), told)

    def test_names_of_the_arguments(self):
        self.assertEqual(str(inspect.signature(hands.fewest_turnings)), "(yard, number, square, many)")
        self.assertEqual(fewest_turnings(many=3, square=(0, -3), number=0, yard=NORTH), ((0, 0),))


if __name__ == "__main__":
    unittest.main()
