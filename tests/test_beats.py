"""Points [13] and [14]: turns, beats, so many beats, and back; and what point [3] says of them."""

import copy
import inspect
import unittest
from random import Random

from ownrail import beats as beats_module
from ownrail.beats import back_by, beat, beats, one_turn
from ownrail.engines import gone_on, turned_by_hand
from ownrail.errors import NoNumber
from ownrail.roads import gone_between, place_of
from ownrail.yards import look_yard, turned_about
from samples import FAR, SHAPES, WAYS, gone_by, short_engines
from yard_samples import COLUMN, engine_of, random_yard, sample_yards, slow_beat, slow_beats, slow_turn

ALONE = engine_of(0, 0, 0, 1, "slr")
# Forward it wants the square of its own rail at place 2.
OWN_WAY = engine_of(0, 0, 1, 1, "ssslll")
WHEEL = engine_of(0, 0, 0, 1, "rrrr")


def colours(yard):
    return sorted(colour for engine in yard for shape, colour in engine[4])


def painted_anew(yard, seed):
    chance = Random(seed)
    return tuple((x, y, way, look, tuple((shape, chance.randint(0, 9)) for shape, colour in rails))
                 for x, y, way, look, rails in yard)


def bare(yard):
    return tuple((x, y, way, look, tuple(shape for shape, colour in rails)) for x, y, way, look, rails in yard)


class OneTurn(unittest.TestCase):
    def test_goes_on(self):
        yard = (ALONE, engine_of(9, 9, 1, -1, "ss"))
        self.assertEqual(one_turn(yard, 0), ((gone_on(ALONE), yard[1]), None))
        self.assertEqual(one_turn(yard, 1), ((ALONE, (8, 9, 1, -1, (("s", 1), ("s", 0)))), None))

    def test_is_turned_by_another(self):
        one, other = engine_of(0, 0, 0, 1, "sss", 1), engine_of(-1, 3, 1, 1, "sss", 5)
        self.assertEqual(one_turn((one, other), 0), (
            ((0, 0, 0, -1, (("s", 1), ("s", 2), ("s", 6))), (-1, 3, 1, 1, (("s", 5), ("s", 3), ("s", 7)))),
            (0, (0, 3), 1, 1)))
        # Back: its last rail's colour goes over.
        one, other = engine_of(0, 0, 0, -1, "sss", 1), engine_of(1, -1, 3, 1, "sss", 5)
        self.assertEqual(one_turn((other, one), 1), (
            ((1, -1, 3, 1, (("s", 5), ("s", 1), ("s", 7))), (0, 0, 0, 1, (("s", 6), ("s", 2), ("s", 3)))),
            (1, (0, -1), 0, 1)))

    def test_each_rail_of_another(self):
        for at in range(12):
            one, other = engine_of(0, 0, 0, 1, "ss", 3), engine_of(-at, 2, 1, -1, "s" * 12)
            (mine, theirs), meeting = one_turn((other, one), 1)[0][::-1], one_turn((other, one), 1)[1]
            self.assertEqual(meeting, (1, (0, 2), 0, at))
            self.assertEqual(mine, (0, 0, 0, -1, (("s", 3), ("s", at % 10))))
            self.assertEqual(theirs[4][at], ("s", 4))
            self.assertEqual(theirs[:4], other[:4])
            kept = [rail for place, rail in enumerate(theirs[4]) if place != at]
            self.assertEqual(kept, [rail for place, rail in enumerate(other[4]) if place != at])

    def test_is_turned_by_itself(self):
        yard, meeting = one_turn((OWN_WAY,), 0)
        # Its first rail, place 5, and its rail at place 2 exchange colours.
        self.assertEqual(meeting, (0, (2, 0), 0, 2))
        self.assertEqual(yard, ((0, 0, 1, -1, (("s", 0), ("s", 1), ("s", 5), ("l", 3), ("l", 4), ("l", 2))),))

    def test_is_turned_by_itself_back(self):
        engine = engine_of(0, 0, 0, -1, "rrrsss")
        yard, meeting = one_turn((engine,), 0)
        self.assertEqual((yard, meeting), slow_turn((engine,), 0))
        self.assertEqual(meeting, (0, (0, -1), 0, 3))
        self.assertEqual(yard, ((0, 0, 0, 1, (("r", 3), ("r", 1), ("r", 2), ("s", 0), ("s", 4), ("s", 5))),))

    def test_wants_the_rail_that_it_takes_up(self):
        for look in (1, -1):
            wheel = WHEEL[:3] + (look,) + WHEEL[4:]
            self.assertEqual(one_turn((wheel,), 0), ((gone_by(wheel, look),), None))
        self.assertEqual(one_turn((WHEEL,), 0), (((1, 0, 1, 1, (("r", 1), ("r", 2), ("r", 3), ("r", 0))),), None))

    def test_one_rail_alone(self):
        for shape in SHAPES:
            for way in WAYS:
                for look in (1, -1):
                    engine = (3, -4, way, look, ((shape, 7),))
                    self.assertEqual(one_turn((engine,), 0), ((gone_by(engine, look),), None))
                    # Its one rail is both the nearest and the one that it would take up.
                    square = gone_by(engine, look)[:2]
                    there = (*square, 0, 1, (("s", 2),))
                    turned = (3, -4, way, -look, ((shape, 2),))
                    self.assertEqual(
                        one_turn((engine, there), 0), ((turned, (*square, 0, 1, (("s", 7),))), (0, square, 1, 0)))

    def test_two_rails_never_want_their_own(self):
        for engine in short_engines(2):
            self.assertEqual(one_turn((engine,), 0), ((gone_by(engine, engine[3]),), None))

    def test_each_number_alone_has_the_turn(self):
        for yard in sample_yards(21, each=2):
            for number in range(len(yard)):
                told, meeting = one_turn(yard, number)
                self.assertEqual((told, meeting), slow_turn(yard, number))
                if meeting is None:
                    self.assertEqual(told[:number] + told[number + 1:], yard[:number] + yard[number + 1:])

    def test_numbers_that_are_not_there(self):
        for many in range(9):
            yard = random_yard(Random(many), many)
            for number in (-1, -2, -8, -9, many, many + 1, 8, 9, 10 ** 30, -(10 ** 30)):
                if not 0 <= number < many:
                    with self.assertRaises(NoNumber) as caught:
                        one_turn(yard, number)
                    self.assertEqual(caught.exception.number, number)
            for number in range(many):
                one_turn(yard, number)

    def test_like_colours_are_exchanged_too(self):
        one, other = engine_of(0, 0, 0, 1, "s", 4), engine_of(0, 1, 0, -1, "s", 4)
        self.assertEqual(one_turn((one, other), 0), ((turned_by_hand(one), other), (0, (0, 1), 1, 0)))


class Beat(unittest.TestCase):
    def test_none(self):
        self.assertEqual(beat(()), ((), ()))
        self.assertEqual(beats((), 5), ((), ()))

    def test_no_meeting(self):
        self.assertEqual(beat((ALONE,)), ((gone_on(ALONE),), ()))

    def test_one_meeting(self):
        one, other = engine_of(0, 0, 0, 1, "s", 1), engine_of(0, 1, 1, 1, "s", 2)
        told, meetings = beat((one, other))
        self.assertEqual(meetings, ((0, (0, 1), 1, 0),))
        self.assertEqual(told, ((0, 0, 0, -1, (("s", 2),)), (1, 1, 1, 1, (("s", 1),))))

    def test_by_their_numbers(self):
        # As the other number it has gone out of the way before the one has its turn.
        one, other = engine_of(0, 0, 0, 1, "s", 1), engine_of(0, 1, 1, 1, "s", 2)
        self.assertEqual(beat((other, one)), (((1, 1, 1, 1, (("s", 2),)), (0, 1, 0, 1, (("s", 1),))), ()))

    def test_several_meetings(self):
        one, other = engine_of(0, 0, 0, 1, "s", 1), engine_of(0, 1, 2, 1, "s", 2)
        told, meetings = beat((one, other))
        self.assertEqual(meetings, ((0, (0, 1), 1, 0), (1, (0, 0), 0, 0)))
        # Exchanged twice, so the colours are as they were.
        self.assertEqual(told, ((0, 0, 0, -1, (("s", 1),)), (0, 1, 2, -1, (("s", 2),))))

    def test_a_rail_laid_in_this_beat_is_in_the_way(self):
        one, other = engine_of(0, 0, 1, 1, "ss", 1), engine_of(2, 1, 2, 1, "s", 5)
        told, meetings = beat((one, other))
        self.assertEqual(meetings, ((1, (2, 0), 0, 1),))
        self.assertEqual(told, ((1, 0, 1, 1, (("s", 2), ("s", 5))), (2, 1, 2, -1, (("s", 1),))))

    def test_against_the_slow_way(self):
        counts = set()
        for yard in sample_yards(22):
            told = beat(yard)
            self.assertEqual(told, slow_beat(yard))
            self.assertIs(type(told[1]), tuple)
            counts.add(len(told[1]))
        self.assertTrue({0, 1, 2, 3} <= counts, counts)


class Beats(unittest.TestCase):
    def test_none_at_all(self):
        for yard in sample_yards(23, each=1):
            self.assertEqual(beats(yard, 0), (yard, ()))
            self.assertEqual(back_by(yard, 0), yard)

    def test_counted_from_one(self):
        one, other = engine_of(0, 0, 0, 1, "s", 1), engine_of(0, 3, 2, 1, "s", 2)
        told, meetings = beats((one, other), 3)
        self.assertEqual(meetings, ((2, 0, (0, 2), 1, 0), (2, 1, (0, 1), 0, 0)))
        self.assertEqual(told, ((0, 0, 0, -1, (("s", 1),)), (0, 3, 2, -1, (("s", 2),))))
        self.assertEqual(beats((one, other), 1)[1], ())
        self.assertEqual(beats((one, other), 2)[1], meetings)

    def test_against_the_slow_way(self):
        met = 0
        for yard in sample_yards(24, each=2):
            told = beats(yard, 40)
            self.assertEqual(told, slow_beats(yard, 40))
            met += len(told[1])
        self.assertGreater(met, 500)

    def test_column(self):
        self.assertEqual(beats(COLUMN, 60), slow_beats(COLUMN, 60))
        self.assertGreater(len(beats(COLUMN, 60)[1]), 5)

    def test_one_by_one(self):
        for yard in sample_yards(25, each=1):
            now, rows = yard, []
            for gone in range(1, 31):
                now, meetings = beat(now)
                rows += [(gone,) + meeting for meeting in meetings]
                self.assertEqual(beats(yard, gone), (now, tuple(rows)))

    def test_a_beat_is_a_turn_of_each(self):
        for yard in sample_yards(26, each=1):
            now, rows = yard, []
            for number in range(len(yard)):
                now, meeting = one_turn(now, number)
                rows += [] if meeting is None else [meeting]
            self.assertEqual(beat(yard), (now, tuple(rows)))

    def test_put_together(self):
        for yard in sample_yards(27, each=1):
            middle, first = beats(yard, 70)
            last, second = beats(middle, 55)
            shifted = tuple((row[0] + 70,) + row[1:] for row in second)
            self.assertEqual(beats(yard, 125), (last, first + shifted))

    def test_five_thousand(self):
        yard = random_yard(Random(5), 8)
        told, meetings = beats(yard, 5000)
        self.assertEqual(back_by(told, 5000), yard)
        self.assertEqual(colours(told), colours(yard))
        line = (engine_of(0, 0, 0, 1, "s" * 12), engine_of(5, 0, 1, -1, "ss"))
        self.assertEqual(beats(line, 5000)[0][0][:2], (0, 5000))
        self.assertEqual(beats(line, 5000)[0][1][:2], (-4995, 0))

    def test_beyond_the_bound(self):
        yard = (engine_of(FAR, FAR, 1, 1, "ss"), engine_of(-FAR, 0, 1, -1, "s"))
        told = beats(yard, 1000)[0]
        self.assertEqual([engine[:2] for engine in told], [(FAR + 1000, FAR), (-FAR - 1000, 0)])
        self.assertEqual(beats(told, 5), slow_beats(told, 5))
        self.assertEqual(back_by(told, 1000), yard)


class Back(unittest.TestCase):
    def test_a_beat_turned_about_twice_is_nothing(self):
        for yard in sample_yards(28):
            there = turned_about(beat(yard)[0])
            self.assertEqual(turned_about(beat(there)[0]), yard)

    def test_back_and_on(self):
        for yard in sample_yards(29):
            for many in (1, 2, 17, 100):
                earlier = back_by(yard, many)
                self.assertEqual(beats(earlier, many)[0], yard)
                self.assertEqual(back_by(beats(yard, many)[0], many), yard)

    def test_it_is_turned_about(self):
        for yard in sample_yards(30, each=1):
            self.assertEqual(back_by(yard, 9), turned_about(slow_beats(turned_about(yard), 9)[0]))

    def test_what_comes_of_it_is_a_yard(self):
        for yard in sample_yards(31, each=1):
            for told in (back_by(yard, 50), beats(yard, 50)[0], beat(yard)[0]):
                self.assertIs(look_yard(told), True)


class TheWhole(unittest.TestCase):
    """Point [3], what it says of beats and of an engine's road."""

    def test_no_engine_leaves_its_road(self):
        for yard in sample_yards(32, each=1):
            now = yard
            for gone in range(40):
                now = beat(now)[0]
                for first, engine in zip(yard, now):
                    k = gone_between(first, engine)
                    self.assertIsNotNone(k)
                    self.assertEqual(place_of(engine, 3), place_of(first, k + 3))

    def test_colours_decide_nothing_and_none_is_lost(self):
        for yard in sample_yards(33, each=1):
            told, meetings = beats(yard, 40)
            self.assertEqual(colours(told), colours(yard))
            for seed in range(3):
                other, others_meetings = beats(painted_anew(yard, seed), 40)
                self.assertEqual((bare(other), others_meetings), (bare(told), meetings))

    def test_unlike_yards_stay_unlike(self):
        seen = {}
        for yard in sample_yards(34, each=2):
            told = beats(yard, 25)[0]
            self.assertEqual(seen.setdefault(told, yard), yard)


class Kept(unittest.TestCase):
    def test_what_was_handed_in_is_as_it_was(self):
        for yard in sample_yards(35, each=1):
            copied = copy.deepcopy(yard)
            beat(yard), beats(yard, 9), back_by(yard, 9)
            for number in range(len(yard)):
                one_turn(yard, number)
            self.assertEqual(yard, copied)

    def test_asked_again_is_told_the_same(self):
        for yard in sample_yards(36, each=1):
            told = beats(yard, 9)
            beats(COLUMN, 5)
            self.assertEqual(beats(yard, 9), told)

    def test_names_of_the_arguments(self):
        told = {"one_turn": "(yard, number)", "beat": "(yard)", "beats": "(yard, many)", "back_by": "(yard, many)"}
        for name, arguments in told.items():
            self.assertEqual(str(inspect.signature(getattr(beats_module, name))), arguments)
        self.assertEqual(one_turn(number=0, yard=(ALONE,)), one_turn((ALONE,), 0))
        self.assertEqual(beats(many=4, yard=(ALONE,)), beats((ALONE,), 4))
        self.assertEqual(back_by(many=4, yard=(ALONE,)), back_by((ALONE,), 4))
        self.assertEqual(beat(yard=(ALONE,)), beat((ALONE,)))

    def test_tuples_are_told(self):
        told, meetings = beats(COLUMN, 40)
        self.assertEqual({type(part) for part in (told, meetings, *told, *meetings)}, {tuple})
        for x, y, way, look, rails in told:
            self.assertEqual([type(part) for part in (x, y, way, look, rails)], [int, int, int, int, tuple])
            self.assertEqual({type(rail) for rail in rails}, {tuple})
        for gone, number, square, other, rail in meetings:
            self.assertEqual([type(part) for part in (gone, number, square, other, rail)], [int, int, tuple, int, int])


if __name__ == "__main__":
    unittest.main()
