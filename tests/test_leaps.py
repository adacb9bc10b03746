"""Point [19]: far yards and their meetings, by leaps, colours too; and what point [3] says of them."""

import copy
import inspect
import unittest
from random import Random

from ownrail import leaps
from ownrail.beats import beats
from ownrail.errors import OwnWay, TooMany
from ownrail.leaps import MEETINGS, far_meetings, far_yard
from ownrail.meetings import first_meeting
from ownrail.yards import turned_about
from samples import FAR
from yard_samples import COLUMN, OWN_WAY, WHEEL, engine_of, free_yard, free_yards, gone_free, lies_once, slow_beats

MOST_BEATS = 10 ** 12
# The last goes to and fro between the two that part, each of these by one square in two beats.
PARTING = (
    engine_of(0, 4, 0, 1, "rllr", 1),
    engine_of(0, -4, 2, 1, "rllr", 5),
    engine_of(0, 0, 0, 1, "s", 9),
)
# The same with longer ones, numbered otherwise, and another that crosses their way once.
PARTING_LONGER = (
    engine_of(0, 0, 0, 1, "ss", 9),
    engine_of(0, 6, 0, 1, "srllr", 1),
    engine_of(0, -6, 2, 1, "srllr", 5),
    engine_of(-5000, 2, 1, 1, "s" * 12, 2),
)
# To and fro between two wheels, with one square to spare.
NARROW = (engine_of(0, 0, 0, 1, "s", 3), engine_of(0, 3, 0, 1, "rrrr", 5), engine_of(0, -1, 0, -1, "rrrr", 1))


def met_beats(rows):
    return len({row[0] for row in rows})


def colours(yard):
    return sorted(colour for engine in yard for shape, colour in engine[4])


class AgainstSingleBeats(unittest.TestCase):
    def test_yards_of_1_to_8(self):
        met = 0
        for yard in free_yards(121):
            for many in (0, 1, 2, 7, 60, 300):
                later, rows = beats(yard, many)
                self.assertEqual(far_yard(yard, many), later, (yard, many))
                self.assertEqual(far_meetings(yard, many), list(rows), (yard, many))
                met += len(rows)
        self.assertGreater(met, 3000)

    def test_by_the_slow_way(self):
        for yard in free_yards(122, each=1):
            later, rows = slow_beats(yard, 40)
            self.assertEqual(far_yard(yard, 40), later)
            self.assertEqual(far_meetings(yard, 40), list(rows))

    def test_each_number_of_beats(self):
        for yard in (COLUMN, PARTING, PARTING_LONGER):
            for many in range(80):
                later, rows = beats(yard, many)
                self.assertEqual((far_yard(yard, many), far_meetings(yard, many)), (later, list(rows)))

    def test_five_thousand(self):
        chance = Random(123)
        for yard in (COLUMN, PARTING, PARTING_LONGER, free_yard(chance, 8, 6, 6), free_yard(chance, 5, 6, 12)):
            later, rows = beats(yard, 5000)
            self.assertEqual(far_yard(yard, 5000, most=20000), later)
            self.assertEqual(far_meetings(yard, 5000, most=20000), list(rows))

    def test_crowds(self):
        chance = Random(124)
        met = 0
        for again in range(20):
            yard = free_yard(chance, 8, 4, 4)
            later, rows = beats(yard, 400)
            met += len(rows)
            self.assertEqual((far_yard(yard, 400), far_meetings(yard, 400)), (later, list(rows)))
        self.assertGreater(met, 1000)

    def test_none_at_all(self):
        for many in (0, 1, MOST_BEATS):
            self.assertEqual(far_yard((), many), ())
            self.assertEqual(far_meetings((), many), [])
        for yard in free_yards(125, each=1):
            self.assertEqual(far_yard(yard, 0), yard)
            self.assertEqual(far_meetings(yard, 0), [])


class Far(unittest.TestCase):
    def test_one_alone(self):
        self.assertEqual(far_yard((engine_of(3, 4, 0, 1, "s"),), MOST_BEATS), (engine_of(3, 4 + MOST_BEATS, 0, 1, "s"),))
        self.assertEqual(far_yard((engine_of(3, 4, 1, -1, "s"),), MOST_BEATS), (engine_of(3 - MOST_BEATS, 4, 1, -1, "s"),))
        self.assertEqual(far_yard((WHEEL,), MOST_BEATS), (WHEEL,))
        self.assertEqual(far_yard((WHEEL,), MOST_BEATS - 1), beats((WHEEL,), 3)[:1][0])

    def test_till_at_and_behind_a_far_meeting(self):
        yard = (engine_of(0, -FAR, 0, 1, "s", 1), engine_of(0, FAR - 1, 2, 1, "s", 2))
        told = ((FAR, 0, (0, 0), 1, 0), (FAR, 1, (0, -1), 0, 0))
        self.assertEqual(far_meetings(yard, FAR - 1), [])
        self.assertEqual(far_yard(yard, FAR - 1), (engine_of(0, -1, 0, 1, "s", 1), engine_of(0, 0, 2, 1, "s", 2)))
        self.assertEqual(far_meetings(yard, FAR), list(told))
        # Both were turned, the colours exchanged twice.
        self.assertEqual(far_yard(yard, FAR), (engine_of(0, -1, 0, -1, "s", 1), engine_of(0, 0, 2, -1, "s", 2)))
        self.assertEqual(far_meetings(yard, MOST_BEATS), list(told))
        away = MOST_BEATS - FAR
        self.assertEqual(
            far_yard(yard, MOST_BEATS),
            (engine_of(0, -1 - away, 0, -1, "s", 1), engine_of(0, away, 2, -1, "s", 2)))

    def test_colours_of_a_far_meeting(self):
        yard = (engine_of(0, -FAR, 0, 1, "sss", 1), WHEEL)
        [meeting] = far_meetings(yard, MOST_BEATS)
        self.assertEqual(meeting[:4], (FAR - 3, 0, (0, -1), 1))
        near = gone_free(yard, FAR - 4)
        later, rows = beats(near, 1)
        self.assertEqual((meeting[1:],), tuple(row[1:] for row in rows))
        self.assertEqual(far_yard(yard, FAR - 3), later)
        self.assertEqual(far_yard(yard, FAR + 97), beats(later, 100)[0])

    def test_to_and_fro_between_two_that_part(self):
        for yard in (PARTING, PARTING_LONGER):
            rows = far_meetings(yard, MOST_BEATS)
            self.assertGreater(len(rows), 15)
            # Each way takes longer than the one ahead, so what is far is far indeed.
            self.assertGreater(rows[-1][0], FAR)
            for row in rows[-6:]:
                self.check_window(yard, row[0])

    def check_window(self, yard, at):
        """Single beats from a little ahead of this beat till a little behind it."""
        near = far_yard(yard, at - 8)
        before = far_meetings(yard, at - 8)
        later, rows = beats(near, 20)
        self.assertTrue(rows)
        self.assertEqual(far_yard(yard, at + 12), later)
        self.assertEqual(far_meetings(yard, at + 12), before + [(row[0] + at - 8,) + row[1:] for row in rows])

    def test_windows_near_far_meetings(self):
        chance = Random(126)
        seen = 0
        while seen < 40:
            yard = gone_free(free_yard(chance, 3, 8, 6), -10 ** 6)
            told = first_meeting(yard) if lies_once(yard) else None
            if told is not None and told[0] > 1000:
                self.check_window(yard, told[0])
                seen += 1


class TheWhole(unittest.TestCase):
    def samples(self):
        yield from (COLUMN, PARTING, PARTING_LONGER)
        yield from free_yards(127, each=1)

    def test_put_together(self):
        for yard in self.samples():
            for one, other in ((0, 5), (5, 0), (123, 456)):
                middle = far_yard(yard, one)
                self.assertEqual(far_yard(middle, other), far_yard(yard, one + other))
                rows = [(row[0] + one,) + row[1:] for row in far_meetings(middle, other)]
                self.assertEqual(far_meetings(yard, one) + rows, far_meetings(yard, one + other))

    def test_put_together_far(self):
        for yard in (PARTING, PARTING_LONGER):
            for one, other in ((10 ** 6 + 1, 10 ** 9 + 3), (MOST_BEATS // 3, MOST_BEATS // 2)):
                self.assertEqual(far_yard(far_yard(yard, one), other), far_yard(yard, one + other))

    def test_turned_about_it_comes_back(self):
        for yard in (PARTING, PARTING_LONGER):
            for many in (10, 10 ** 6, 10 ** 11, MOST_BEATS):
                later = turned_about(far_yard(yard, many))
                self.assertEqual(turned_about(far_yard(later, many)), yard)
        for yard in free_yards(128, each=1):
            later = turned_about(far_yard(yard, 700))
            self.assertEqual(turned_about(far_yard(later, 700)), yard)

    def test_no_colour_is_lost(self):
        for yard in self.samples():
            self.assertEqual(colours(far_yard(yard, 500)), colours(yard))

    def test_the_first_meeting_is_the_first_of_all(self):
        for yard in free_yards(129, each=1):
            told = first_meeting(yard)
            rows = far_meetings(yard, 800, most=20000)
            if rows:
                self.assertEqual((rows[0][0], rows[0][1], rows[0][3]), told)
            else:
                self.assertTrue(told is None or told[0] > 800)


class Refused(unittest.TestCase):
    def too_many(self, yard, many, **named):
        for ask in (far_yard, far_meetings):
            with self.assertRaises(TooMany) as caught:
                ask(yard, many, **named)
            self.assertEqual(caught.exception.most, named.get("most", 1000))

    def test_just_the_most_and_one_fewer(self):
        several = 0
        for yard in free_yards(130, each=2):
            later, rows = beats(yard, 200)
            needed = met_beats(rows)
            # Beats with meetings are counted, not meetings.
            several += len(rows) > needed
            for most in (needed, needed + 1, 20000):
                if most > 0:
                    self.assertEqual(far_yard(yard, 200, most=most), later)
                    self.assertEqual(far_meetings(yard, 200, most=most), list(rows))
            if needed > 1:
                self.too_many(yard, 200, most=needed - 1)
                self.too_many(yard, 200, most=1)
        self.assertGreater(several, 8)

    def test_just_till_the_beat_of_one_more(self):
        rows = beats(COLUMN, 400)[1]
        turns = sorted({row[0] for row in rows})
        for most in (1, 2, 5, 20):
            last = turns[most] - 1
            self.assertEqual(far_yard(COLUMN, last, most=most), beats(COLUMN, last)[0])
            self.too_many(COLUMN, last + 1, most=most)
            self.too_many(COLUMN, MOST_BEATS, most=most)

    def test_most_left_out(self):
        self.assertEqual((MEETINGS, type(MEETINGS)), (1000, int))
        turns = sorted({row[0] for row in beats(NARROW, 5000)[1]})
        self.assertGreater(len(turns), 1000)
        last = turns[1000] - 1
        later, rows = beats(NARROW, last)
        self.assertEqual((far_yard(NARROW, last), far_meetings(NARROW, last)), (later, list(rows)))
        self.too_many(NARROW, last + 1)
        self.too_many(NARROW, MOST_BEATS)

    def test_own_way_ahead_of_too_many(self):
        own = engine_of(50, 50, 1, 1, "ssslll")
        for yard, number in ((COLUMN + (own,), 3), ((own,) + COLUMN, 0), (COLUMN[:2] + (own, COLUMN[2], OWN_WAY), 2)):
            for ask in (far_yard, far_meetings):
                for many in (0, 1, 100, MOST_BEATS):
                    with self.assertRaises(OwnWay) as caught:
                        ask(yard, many, most=1)
                    self.assertEqual(caught.exception.number, number)


class Kept(unittest.TestCase):
    def test_what_was_handed_in_is_as_it_was(self):
        for yard in free_yards(131, each=1):
            copied = copy.deepcopy(yard)
            told, rows = far_yard(yard, 90), far_meetings(yard, 90)
            kept = list(rows)
            self.assertIsNot(far_meetings(yard, 90), rows)
            rows.append("mine")
            far_yard(COLUMN, 20)
            self.assertEqual(yard, copied)
            self.assertEqual((far_yard(yard, 90), far_meetings(yard, 90)), (told, kept))

    def test_kinds_that_are_told(self):
        told, rows = far_yard(COLUMN, 40), far_meetings(COLUMN, 40)
        self.assertIs(type(rows), list)
        self.assertEqual({type(part) for part in (told, *told, *rows)}, {tuple})
        for x, y, way, look, rails in told:
            self.assertEqual([type(part) for part in (x, y, way, look, rails)], [int, int, int, int, tuple])
            self.assertEqual({type(rail) for rail in rails}, {tuple})
        for gone, number, square, other, rail in rows:
            self.assertEqual([type(part) for part in (gone, number, square, other, rail)], [int, int, tuple, int, int])

    def test_names_of_the_arguments(self):
        for name in ("far_yard", "far_meetings"):
            ask = getattr(leaps, name)
            self.assertEqual(str(inspect.signature(ask)), "(yard, many, *, most=1000)")
            self.assertEqual(ask(most=50, many=40, yard=COLUMN), ask(COLUMN, 40))
            self.assertEqual(ask(COLUMN, many=40), ask(COLUMN, 40))
            with self.assertRaises(TypeError):
                ask(COLUMN, 40, 50)


if __name__ == "__main__":
    unittest.main()
