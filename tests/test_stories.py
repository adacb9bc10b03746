"""Point [23]: when what is seen of two yards parts, and rows of yards that are stories."""

import copy
import inspect
import unittest
from random import Random

from ownrail import stories
from ownrail.alike import seen_of
from ownrail.beats import beat, beats
from ownrail.engines import painted, turned_by_hand
from ownrail.stories import SEEN, first_untrue, parted_at
from ownrail.yards import turned_about
from yard_samples import COLUMN, WHEEL, engine_of, random_yard, sample_yards, slow_beat, slow_squares

# What is seen of a straight engine is alike whatever its look, till a beat.
NORTH = (engine_of(0, 0, 0, 1, "s", 4),)
SOUTH = (engine_of(0, 0, 0, -1, "s", 4),)


def slow_seen(yard):
    return {square: colour for engine in yard for square, (shape, colour) in zip(slow_squares(engine), engine[4])}


def slow_parted(one, other, most):
    for gone in range(most + 1):
        if slow_seen(one) != slow_seen(other):
            return gone
        one, other = slow_beat(one)[0], slow_beat(other)[0]
    return None


class Parted(unittest.TestCase):
    def test_at_once(self):
        self.assertEqual(parted_at(NORTH, (engine_of(0, 0, 0, 1, "s", 5),)), 0)
        self.assertEqual(parted_at(NORTH, ()), 0)
        self.assertEqual(parted_at(NORTH, (engine_of(0, 1, 0, 1, "s", 4),), most=1), 0)

    def test_behind_some_beats(self):
        self.assertEqual(parted_at(NORTH, SOUTH), 1)
        self.assertEqual(parted_at(NORTH, SOUTH, most=1), 1)
        self.assertEqual(parted_at(NORTH, (engine_of(0, 0, 1, 1, "l", 4),)), 2)

    def test_never(self):
        self.assertIsNone(parted_at((), ()))
        self.assertIsNone(parted_at(NORTH, NORTH))
        # Seen alike for ever, though they aren't the same: by its shapes alone one can't tell a straight one's end.
        self.assertIsNone(parted_at(NORTH, (engine_of(0, 0, 2, -1, "s", 4),), most=500))
        self.assertIsNone(parted_at((WHEEL,), (WHEEL,), most=5000))

    def test_just_the_most_and_one_more(self):
        for gap in (2, 5, 60, 199, 200, 201):
            one, other = self.pair_that_parts(gap)
            when = slow_parted(one, other, gap + 5)
            self.assertEqual(parted_at(one, other, most=when), when)
            self.assertEqual(parted_at(one, other, most=when + 1), when)
            self.assertIsNone(parted_at(one, other, most=when - 1))
            self.assertEqual(parted_at(one, other), when if when <= 200 else None)

    def pair_that_parts(self, gap):
        """Two straight engines that come to one square in gap beats, numbered in both orders: the second is turned."""
        north, east = engine_of(0, -gap, 0, 1, "s", 1), engine_of(-gap, 0, 1, 1, "s", 2)
        return (north, east), (east, north)

    def test_against_single_beats(self):
        chance = Random(161)
        told_all = set()
        for again in range(120):
            yard = random_yard(chance, chance.randint(1, 5), 4, 5)
            other = chance.choice((
                yard[::-1], tuple(turned_by_hand(engine) for engine in yard), turned_about(yard),
                tuple((x, y, way, look, tuple((chance.choice("lsr") if at == len(rails) - 1 else shape, colour)
                                              for at, (shape, colour) in enumerate(rails)))
                      for x, y, way, look, rails in yard)))
            told = parted_at(yard, other, most=60)
            self.assertEqual(told, slow_parted(yard, other, 60))
            self.assertEqual(parted_at(other, yard, most=60), told)
            told_all.add(told)
        self.assertTrue({None, 1, 2} < told_all, told_all)
        self.assertGreater(len(told_all), 6)

    def test_most_left_out(self):
        self.assertEqual((SEEN, type(SEEN)), (200, int))
        one, other = self.pair_that_parts(200)
        self.assertEqual(parted_at(one, other), 200)
        one, other = self.pair_that_parts(201)
        self.assertIsNone(parted_at(one, other))
        self.assertEqual(parted_at(one, other, most=201), 201)

    def test_five_thousand(self):
        one, other = self.pair_that_parts(5000)
        self.assertEqual(parted_at(one, other, most=5000), 5000)
        self.assertIsNone(parted_at(one, other, most=4999))
        yard = random_yard(Random(162), 8)
        self.assertIsNone(parted_at(yard, yard, most=5000))

    def test_what_is_seen_is_what_counts(self):
        for yard in sample_yards(163, each=1):
            for gone in (0, 1, 5):
                later = beats(yard, gone)[0]
                self.assertEqual(parted_at(yard, later, most=1) == 0, seen_of(yard) != seen_of(later))


class Stories(unittest.TestCase):
    def story(self, yard, many):
        rows = [yard]
        while len(rows) < many:
            rows.append(beat(rows[-1])[0])
        return rows

    def test_of_none_and_of_one(self):
        for row in ((), []):
            self.assertIsNone(first_untrue(row))
        for yard in sample_yards(164, each=1):
            self.assertIsNone(first_untrue((yard,)))
            self.assertIsNone(first_untrue([yard]))

    def test_stories(self):
        for yard in sample_yards(165, each=1):
            rows = self.story(yard, 60)
            self.assertIsNone(first_untrue(rows))
            self.assertIsNone(first_untrue(tuple(rows)))
            self.assertIsNone(first_untrue(rows[7:]))

    def test_a_yard_otherwise_at_each_place(self):
        chance = Random(166)
        for yard in sample_yards(167, each=1):
            rows = self.story(yard, 12)
            for place in range(12 if yard else 0):
                for other in self.otherwise(chance, rows[place]):
                    wrong = rows[:place] + [other] + rows[place + 1:]
                    # What comes of another first yard is another second one: no two unlike yards come to one.
                    self.assertEqual(first_untrue(wrong), max(place, 1))
                    self.assertEqual(first_untrue(tuple(wrong)), max(place, 1))

    def otherwise(self, chance, yard):
        number = chance.randrange(len(yard))
        engine = yard[number]
        place = chance.randrange(len(engine[4]))
        yield yard[:number] + (turned_by_hand(engine),) + yard[number + 1:]
        yield yard[:number] + (painted(engine, place, (engine[4][place][1] + 1) % 10),) + yard[number + 1:]
        yield yard[:number] + yard[number + 1:]

    def test_the_first_of_several(self):
        rows = self.story(COLUMN, 20)
        wrong = rows[:5] + rows[6:9] + rows[3:]
        self.assertEqual(first_untrue(wrong), 5)
        self.assertEqual(first_untrue([rows[0], rows[0]]), 1)
        self.assertEqual(first_untrue([(), (), COLUMN]), 2)
        self.assertIsNone(first_untrue([(), (), ()]))


class Kept(unittest.TestCase):
    def test_what_was_handed_in_is_as_it_was(self):
        for yard in sample_yards(168, each=1):
            rows = [yard, beat(yard)[0], yard]
            copied = copy.deepcopy(rows)
            told = (parted_at(yard, rows[1], most=9), first_untrue(rows))
            parted_at(COLUMN, NORTH), first_untrue([COLUMN])
            self.assertEqual(rows, copied)
            self.assertEqual((parted_at(yard, rows[1], most=9), first_untrue(rows)), told)

    def test_names_of_the_arguments(self):
        self.assertEqual(str(inspect.signature(stories.parted_at)), "(one, other, *, most=200)")
        self.assertEqual(str(inspect.signature(stories.first_untrue)), "(yards)")
        self.assertEqual(parted_at(most=5, other=SOUTH, one=NORTH), 1)
        self.assertEqual(first_untrue(yards=[NORTH, NORTH]), 1)
        with self.assertRaises(TypeError):
            parted_at(NORTH, SOUTH, 5)


if __name__ == "__main__":
    unittest.main()
