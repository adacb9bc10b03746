"""Points [20] and [21]: how all will end with two engines, how often they meet, far yards of two; and [3] of it."""

import copy
import inspect
import unittest
from random import Random
from unittest.mock import patch

from ownrail import fates, leaps
from ownrail.alike import led_yard
from ownrail.beats import beats
from ownrail.errors import OwnWay, TooMany
from ownrail.fates import MEETINGS, far_of_two, fate_of, how_often
from ownrail.leaps import far_yard
from ownrail.meetings import Chase
from ownrail.roads import kind_of
from ownrail.rounds import bones_of
from ownrail.texts import read_yard
from ownrail.yards import turned_about
from samples import FAR
from yard_samples import OWN_WAY, WHEEL, engine_of, free_yard, gone_free, lies_once

MOST_BEATS = 10 ** 12
# So many that two engines near one another, if they part, have parted in the first half of them.
ALL_BEATS = 4000
FACING = (engine_of(0, 0, 0, 1, "s", 1), engine_of(0, 9, 2, 1, "s", 2))
# Drifts that rings hold for ever, rings with one another, and a ring with a wheel.
ROUNDS = tuple(read_yard(text) for text in (
    "-1 -1 n b l5 r3\n-3 1 n f s1 r5 s0 s9 l7 r4 r9 s3 s2 s2 l0 r2",
    "-1 0 s f r4 s6 s1 s5 s5 s5 s3 s5 r1\n-3 1 w f s6",
    "1 -3 s f s5\n1 0 n f s0 l1 l2 s3 s7 s4 s6 s7 s4",
    "-1 3 e f r1 l2\n0 1 s b r4 s6 s9 s1",
    "0 0 n f l3 r8\n-2 -2 n f s6 s0 s8 r9",
    "3 -1 e f l7 r2 r2 s9 l0\n2 1 w f r2 r8 s4 s5 s2 r0 r4 l9 l7 r4 l9",
    "-3 0 e b l9 s8 r5 r4 l2 l6 s7 l2 r5 r1 l7\n3 -2 w b l8 s8 s6 r3 s7 l0 r7 s3 r2 l9 s4 r7",
    "0 1 n b r1 s5 s1 l2 r8 l8 s1 l4 l1 r3 s8 s5\n2 0 n f l6 s3 l5 r3 l6 s6 s6 r7 r6 l8 s0",
))


def moved(engine, x, y):
    return (engine[0] + x, engine[1] + y) + engine[2:]


def slow_fate(yard):
    """(fate, turns) by single beats: free where the later half of all beats has no meetings, else a round."""
    rows = beats(yard, ALL_BEATS)[1]
    last = rows[-1][0] if rows else 0
    if last <= ALL_BEATS // 2:
        return ("free", last), len(rows)
    first, now = bones_of(yard), yard
    for gone in range(1, ALL_BEATS + 1):
        now = beats(now, 1)[0]
        dx, dy = now[0][0] - first[0][0], now[0][1] - first[0][1]
        if bones_of(now) == tuple(moved(engine, dx, dy) for engine in first):
            return ("round", gone, dx, dy), None
    raise AssertionError("neither free nor round")


def sample_pairs(seed, many):
    """Pairs of engines, each free by itself, near one another."""
    chance = Random(seed)
    for again in range(many):
        yield free_yard(chance, 2, chance.choice((2, 3, 4, 6)), chance.choice((4, 8, 12)))


def free_pairs(seed, many, least):
    """Pairs that are free behind at least so many meetings."""
    found = []
    for yard in sample_pairs(seed, 4000):
        if fate_of(yard)[0] == "free" and how_often(yard) >= least:
            found.append(yard)
            if len(found) == many:
                return found
    raise AssertionError("too few pairs")


def met_beats(rows):
    return len({row[0] for row in rows})


class ByHand(unittest.TestCase):
    def test_two_wheels(self):
        for yard in ((WHEEL, moved(WHEEL, 2, 0)), (WHEEL, moved(engine_of(0, 0, 2, -1, "llll"), FAR, -FAR))):
            self.assertEqual(fate_of(yard), ("free", 0))
            self.assertEqual(how_often(yard), 0)
            self.assertEqual(far_of_two(yard, MOST_BEATS), far_yard(yard, MOST_BEATS))

    def test_never_meeting(self):
        one = engine_of(0, 0, 0, 1, "s")
        for other in (engine_of(3, 0, 0, 1, "s"), engine_of(0, -5, 2, 1, "ss"), engine_of(9, 9, 0, 1, "l"), moved(WHEEL, 5, 5)):
            self.assertEqual((fate_of((one, other)), how_often((one, other))), (("free", 0), 0))

    def test_meeting_once_or_twice(self):
        self.assertEqual((fate_of(FACING), how_often(FACING)), (("free", 5), 2))
        one, other = engine_of(0, -7, 0, 1, "s"), engine_of(-7, 0, 1, 1, "s")
        self.assertEqual((fate_of((one, other)), how_often((one, other))), (("free", 7), 1))

    def test_in_beat_1(self):
        yard = (engine_of(0, 0, 0, 1, "s"), engine_of(0, 1, 1, 1, "s"))
        self.assertEqual((fate_of(yard), how_often(yard)), (("free", 1), 1))

    def test_from_far_off(self):
        yard = (engine_of(0, -FAR, 0, 1, "s"), engine_of(0, FAR - 1, 2, 1, "s"))
        self.assertEqual((fate_of(yard), how_often(yard)), (("free", FAR), 2))
        yard = (engine_of(0, -FAR, 0, 1, "sss"), WHEEL)
        self.assertEqual((fate_of(yard), how_often(yard)), (("free", FAR - 3), 1))

    def test_a_round(self):
        # One goes to and fro within the other ring's way.
        yard = ROUNDS[1]
        self.assertEqual(fate_of(yard), ("round", 10, 0, 0))
        self.assertIsNone(how_often(yard))


class AgainstSingleBeats(unittest.TestCase):
    def test_near_pairs(self):
        found = {}
        for yard in sample_pairs(171, 250):
            fate, turns = slow_fate(yard)
            self.assertEqual(fate_of(yard), fate, yard)
            self.assertEqual(how_often(yard), turns, yard)
            found.setdefault(fate[0], set()).add(turns)
        self.assertTrue({0, 1, 2, 3} <= found["free"], found)
        self.assertEqual(found["round"], {None})

    def test_given_rounds(self):
        for yard in ROUNDS:
            self.assertEqual((fate_of(yard), how_often(yard)), slow_fate(yard))
            self.assertEqual(fate_of(yard)[0], "round")
            self.assertEqual((fate_of(yard[::-1]), how_often(yard[::-1])), slow_fate(yard[::-1]))

    def test_kinds_that_go_round(self):
        kinds = {frozenset(map(kind_of, yard)) for yard in ROUNDS}
        self.assertEqual(kinds, {frozenset(("ring", "drift")), frozenset(("ring",))})

    def test_free_behind_several_meetings(self):
        for yard in free_pairs(172, 12, 4):
            self.assertEqual((fate_of(yard), how_often(yard)), slow_fate(yard))

    def test_from_far_off(self):
        seen = 0
        for yard in free_pairs(173, 12, 2):
            earlier = gone_free(yard, -5280 * 10 ** 5)
            told = fate_of(earlier) if lies_once(earlier) else None
            # Of those that come from far off: near, they do as single beats do.
            if told is not None and told[0] == "free" and told[1] > 10 ** 6:
                near = far_of_two(earlier, 5280 * 10 ** 5)
                fate, turns = slow_fate(near)
                if near == yard:
                    self.assertEqual((told, how_often(earlier)), (("free", fate[1] + 5280 * 10 ** 5), turns))
                    seen += 1
        self.assertGreater(seen, 3)

    def test_far_yards_by_single_beats(self):
        for yard in ROUNDS + tuple(free_pairs(174, 6, 3)) + tuple(sample_pairs(175, 30)):
            for many in (0, 1, 2, 9, 10, 11, 100, 777):
                self.assertEqual(far_of_two(yard, many), beats(yard, many)[0], (yard, many))

    def test_a_far_yard_of_five_thousand(self):
        for yard in ROUNDS:
            self.assertEqual(far_of_two(yard, 5000), beats(yard, 5000)[0])


class Far(unittest.TestCase):
    def test_put_together(self):
        for yard in ROUNDS + tuple(free_pairs(176, 6, 3)):
            for one, other in ((0, 0), (3, 4), (10 ** 6 + 7, 10 ** 11 + 13), (MOST_BEATS // 2, MOST_BEATS // 2)):
                self.assertEqual(far_of_two(far_of_two(yard, one), other), far_of_two(yard, one + other))

    def test_turned_about_it_comes_back(self):
        for yard in ROUNDS + tuple(free_pairs(177, 6, 3)):
            for many in (5, 10 ** 7, MOST_BEATS):
                later = turned_about(far_of_two(yard, many))
                self.assertEqual(turned_about(far_of_two(later, many)), yard)

    def test_one_more_beat(self):
        for yard in ROUNDS:
            for many in (10 ** 9 + 1, MOST_BEATS - 17):
                self.assertEqual(beats(far_of_two(yard, many), 17)[0], far_of_two(yard, many + 17))

    def test_behind_whole_rounds_the_bones_are_the_same(self):
        for yard in ROUNDS:
            word, many, dx, dy = fate_of(yard)
            for times in (1, 2, 10 ** 6):
                later = far_of_two(yard, many * times)
                self.assertEqual(bones_of(later), led_yard(bones_of(yard), dx=dx * times, dy=dy * times))

    def test_colours_take_their_rounds(self):
        unlike = 0
        for yard in ROUNDS:
            many = fate_of(yard)[1]
            one_by_one = yard
            for times in range(1, 8):
                one_by_one = beats(one_by_one, many)[0]
                self.assertEqual(far_of_two(yard, many * times), one_by_one)
            unlike += one_by_one != yard
        self.assertGreater(unlike, 2)

    def test_where_they_are_free(self):
        self.assertEqual(
            far_of_two(FACING, MOST_BEATS),
            (engine_of(0, 4 - MOST_BEATS + 5, 0, -1, "s", 1), engine_of(0, 5 + MOST_BEATS - 5, 2, -1, "s", 2)))


class LedOn(unittest.TestCase):
    """Rounds that are led on: no two engines of 12 rails or fewer are known that go so, so by parts of the way there."""

    # Side by side for ever: 5 beats lead both on by (0, 5), 4 by (0, 4), colours gone round on the second.
    ABREAST = (engine_of(0, 0, 0, 1, "s", 3), engine_of(2, 1, 0, 1, "ss", 6))

    def test_the_shift_between_two_stands(self):
        for yard, gone, shift in (
                (self.ABREAST, 5, (0, 5)), (self.ABREAST, 1, (0, 1)),
                ((engine_of(0, 0, 0, 1, "lr"), engine_of(9, 0, 0, 1, "lrlr")), 2, (-1, 1)),
                ((engine_of(0, 0, 0, 1, "lr"), engine_of(9, 0, 0, 1, "lrlr")), 3, None),
                ((engine_of(0, 0, 0, 1, "s"), engine_of(9, 0, 0, -1, "s")), 2, None),
                ((engine_of(0, 0, 0, 1, "s"), WHEEL), 4, None), ((WHEEL, moved(WHEEL, 9, 9)), 4, (0, 0)),
                ((WHEEL, moved(WHEEL, 9, 9)), 2, None)):
            chase = Chase(yard)
            stands = [fates.stand_in(chase, beat) for beat in (1, 1 + gone)]
            self.assertEqual(fates.shift_between(chase, *stands), shift, (yard, gone))

    def test_looks_count(self):
        chase = Chase(self.ABREAST)
        self.assertIsNone(fates.shift_between(chase, [(0, 1), (0, 1)], [(4, 1), (4, -1)]))

    def test_a_far_yard_that_is_led_on(self):
        for many in (0, 1, 6, 7, 40, 3001):
            for length in (2, 5):
                with patch.object(fates, "fate_and_turns", return_value=(("round", length, 0, length), None)):
                    self.assertEqual(far_of_two(self.ABREAST, many), beats(self.ABREAST, many)[0])


class Refused(unittest.TestCase):
    ASKED = (fate_of, how_often, lambda yard, **named: far_of_two(yard, 0, **named),
             lambda yard, **named: far_of_two(yard, 1, **named), lambda yard, **named: far_of_two(yard, MOST_BEATS, **named))

    def too_many(self, yard, most):
        for ask in self.ASKED:
            with self.assertRaises(TooMany) as caught:
                ask(yard, most=most)
            self.assertEqual(caught.exception.most, most)

    def told(self, yard, most):
        self.assertEqual(fate_of(yard, most=most), fate_of(yard))
        self.assertEqual(how_often(yard, most=most), how_often(yard))
        for many in (0, 1, 1000):
            self.assertEqual(far_of_two(yard, many, most=most), beats(yard, many)[0])

    def check_most(self, yard):
        """Told with just as many beats with meetings as are wanted, refused with one fewer; how many meetings more."""
        fate = fate_of(yard)
        rows = beats(yard, fate[1])[1]
        needed = met_beats(rows)
        self.told(yard, needed)
        self.told(yard, needed + 1)
        for fewer in {1, needed - 1} - {0, needed}:
            self.too_many(yard, fewer)
        return len(rows) - needed

    def test_just_the_most_and_one_fewer(self):
        # Beats with meetings are counted, not meetings, so there are some with more meetings than these.
        self.assertGreater(sum(self.check_most(yard) for yard in free_pairs(178, 12, 3)), 2)
        self.assertGreater(sum(self.check_most(yard) for yard in ROUNDS), 2)

    def test_it_is_the_round_that_counts(self):
        # From wherever in its round: as many beats with meetings.
        for yard in ROUNDS[:5]:
            needed = met_beats(beats(yard, fate_of(yard)[1])[1])
            for gone in range(12):
                later = beats(yard, gone)[0]
                self.told(later, needed)
                if needed > 1:
                    self.too_many(later, needed - 1)

    def test_none_is_never_too_many(self):
        self.told((WHEEL, moved(WHEEL, 2, 0)), 1)
        self.told((engine_of(0, 0, 0, 1, "s"), engine_of(3, 0, 0, 1, "s")), 1)

    def test_own_way_ahead(self):
        own, other = moved(OWN_WAY, 50, 50), moved(OWN_WAY, -50, 50)
        for yard, number in (((own, WHEEL), 0), ((WHEEL, own), 1), ((own, other), 0), ((other, own), 0)):
            for ask in self.ASKED:
                with self.assertRaises(OwnWay) as caught:
                    ask(yard, most=1)
                self.assertEqual(caught.exception.number, number)


class Alike(unittest.TestCase):
    def test_the_same_fate_led_on_turned_mirrored(self):
        for yard in ROUNDS[:4] + tuple(free_pairs(179, 4, 2)):
            fate = fate_of(yard)
            for quarters in range(4):
                for mirrored in (False, True):
                    other = led_yard(yard, quarters=quarters, mirrored=mirrored, dx=11, dy=-FAR // 2)
                    self.assertEqual(fate_of(other), self.led_fate(fate, quarters, mirrored))
                    self.assertEqual(how_often(other), how_often(yard))
                    later = far_of_two(yard, 10 ** 6)
                    self.assertEqual(far_of_two(other, 10 ** 6), led_yard(
                        later, quarters=quarters, mirrored=mirrored, dx=11, dy=-FAR // 2))

    def led_fate(self, fate, quarters, mirrored):
        if fate[0] == "free":
            return fate
        dx, dy = led_yard(((fate[2], fate[3], 0, 1, (("s", 0),)),), quarters=quarters, mirrored=mirrored)[0][:2]
        return fate[:2] + (dx, dy)

    def test_other_colours(self):
        chance = Random(180)
        for yard in ROUNDS + tuple(free_pairs(181, 4, 2)):
            other = tuple((x, y, way, look, tuple((shape, chance.randint(0, 9)) for shape, colour in rails))
                          for x, y, way, look, rails in yard)
            self.assertEqual((fate_of(other), how_often(other)), (fate_of(yard), how_often(yard)))

    def test_from_each_yard_of_the_round(self):
        for yard in ROUNDS[:5]:
            for gone in (1, 2, 5, 9):
                self.assertEqual(fate_of(beats(yard, gone)[0]), fate_of(yard))

    def test_of_a_later_yard(self):
        for yard in free_pairs(182, 6, 2):
            last = fate_of(yard)[1]
            for gone in range(last):
                self.assertEqual(fate_of(beats(yard, gone)[0]), ("free", last - gone))
            self.assertEqual(fate_of(beats(yard, last)[0]), ("free", 0))


class Kept(unittest.TestCase):
    def test_what_was_handed_in_is_as_it_was(self):
        for yard in ROUNDS + (FACING,):
            copied = copy.deepcopy(yard)
            told = (fate_of(yard), how_often(yard), far_of_two(yard, 99))
            fate_of(FACING), far_of_two(ROUNDS[0], 5)
            self.assertEqual(yard, copied)
            self.assertEqual((fate_of(yard), how_often(yard), far_of_two(yard, 99)), told)

    def test_kinds_that_are_told(self):
        self.assertEqual([type(part) for part in (fate_of(FACING), *fate_of(FACING))], [tuple, str, int])
        self.assertEqual([type(part) for part in (fate_of(ROUNDS[0]), *fate_of(ROUNDS[0]))], [tuple, str, int, int, int])
        for yard in (FACING, ROUNDS[0]):
            told = far_of_two(yard, 500)
            self.assertEqual({type(part) for part in (told, *told)}, {tuple})
            self.assertEqual({type(engine[4]) for engine in told}, {tuple})
            self.assertEqual({type(rail) for engine in told for rail in engine[4]}, {tuple})

    def test_names_of_the_arguments(self):
        self.assertEqual((MEETINGS, leaps.MEETINGS), (1000, 1000))
        told = {"fate_of": "(yard, *, most=1000)", "how_often": "(yard, *, most=1000)",
                "far_of_two": "(yard, many, *, most=1000)"}
        for name, arguments in told.items():
            self.assertEqual(str(inspect.signature(getattr(fates, name))), arguments)
        self.assertEqual(fate_of(most=5, yard=FACING), ("free", 5))
        self.assertEqual(how_often(most=5, yard=FACING), 2)
        self.assertEqual(far_of_two(most=5, many=7, yard=FACING), beats(FACING, 7)[0])
        for ask, given in ((fate_of, (FACING, 5)), (how_often, (FACING, 5)), (far_of_two, (FACING, 5, 5))):
            with self.assertRaises(TypeError):
                ask(*given)


if __name__ == "__main__":
    unittest.main()
