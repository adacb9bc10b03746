"""Point [18]: the first meeting of a yard of engines that are free by themselves, however far; and [3] of it."""

import copy
import inspect
import unittest
from itertools import combinations, permutations, product
from math import lcm
from random import Random

from ownrail import meetings
from ownrail.beats import beats
from ownrail.errors import OwnWay
from ownrail.meetings import first_meeting
from ownrail.roads import kind_of, once_round, round_of
from samples import FAR, WAYS, walked
from yard_samples import (
    OWN_WAY, WHEEL, engine_of, free_yard, free_yards, gone_free, led_far, lies_once, random_free_engine, slow_beats)

# Two engines that start within some squares of each other have met, or never do, behind so many beats.
ALL_BEATS = 5000
# Each goes on by 1 square in 2 beats, and by 3 in 5.
SLOW = engine_of(0, 0, 0, 1, "rllr")
LESS_SLOW = engine_of(0, 0, 0, 1, "srllr")


def by_single_beats(yard, many, run=beats):
    """(beat, number, other) of the first meeting of so many beats, or None."""
    for gone in range(0, many, 100):
        yard, rows = run(yard, min(100, many - gone))
        if rows:
            return (gone + rows[0][0], rows[0][1], rows[0][3])
    return None


def moved(engine, x, y):
    return (engine[0] + x, engine[1] + y) + engine[2:]


class ByHand(unittest.TestCase):
    def test_no_engines_and_one(self):
        self.assertIsNone(first_meeting(()))
        for engine in (WHEEL, SLOW, engine_of(0, 0, 1, -1, "l"), engine_of(FAR, -FAR, 2, 1, "s" * 12)):
            self.assertIsNone(first_meeting((engine,)))

    def test_face_to_face_near_and_far(self):
        for gap in (1, 2, 3, 4, 17, 18, 2 * FAR - 1, 2 * FAR):
            one, other = engine_of(7, -FAR, 0, 1, "s"), engine_of(7, gap - FAR, 2, 1, "s")
            # An odd gap is closed by the first's turn, an even one by the second's.
            told = ((gap + 1) // 2, 0, 1) if gap % 2 else (gap // 2, 1, 0)
            self.assertEqual(first_meeting((one, other)), told, gap)
            self.assertEqual(first_meeting((other, one)), told, gap)

    def test_face_to_face_by_any_length_and_way(self):
        for way, (one, other) in product(WAYS, ((1, 1), (3, 5), (12, 12), (12, 1))):
            x, y = ((0, 1), (1, 0), (0, -1), (-1, 0))[way]
            for gap in (1, 2, 9, 10, FAR - 30, FAR - 31):
                # gap is from the one's first rail to the other's first rail.
                first = engine_of(0, 0, way, 1, "s" * one)
                second = engine_of((one - 1 + gap + other - 1) * x, (one - 1 + gap + other - 1) * y, (way + 2) % 4, 1,
                                   "s" * other)
                told = ((gap + 1) // 2, 0, 1) if gap % 2 else (gap // 2, 1, 0)
                self.assertEqual(first_meeting((first, second)), told)
                # Backwards towards each other: the same, seen from the other end.
                first = engine_of((one - 1) * x, (one - 1) * y, (way + 2) % 4, -1, "s" * one)
                second = engine_of((one - 1 + gap) * x, (one - 1 + gap) * y, way, -1, "s" * other)
                self.assertEqual(first_meeting((first, second)), told)

    def test_one_behind_the_other(self):
        for gap in (1, 2, 30, FAR):
            one, other = engine_of(0, 0, 0, 1, "s"), engine_of(0, gap, 0, 1, "s")
            # As fast as the other: in the other order it wants the other's square in beat 1 if there is no gap.
            self.assertEqual(first_meeting((other, one)), None)
            self.assertEqual(first_meeting((one, other)), (1, 0, 1) if gap == 1 else None)

    def test_parting(self):
        for gap in (1, 2, 30, FAR):
            one, other = engine_of(0, 0, 0, -1, "ss"), engine_of(0, gap + 1, 0, 1, "ss")
            self.assertIsNone(first_meeting((one, other)))
            self.assertIsNone(first_meeting((other, one)))

    def test_across(self):
        for far in (2, 3, 10, FAR):
            north, east = engine_of(0, -far, 0, 1, "s"), engine_of(-far, 0, 1, 1, "s")
            # Both want (0, 0) in the same beat: the first comes onto it, the second is turned.
            self.assertEqual(first_meeting((north, east)), (far, 1, 0))
            self.assertEqual(first_meeting((east, north)), (far, 1, 0))
            # One that comes a beat later finds the other gone, or, where that one has two rails, its last rail.
            late = engine_of(-far - 1, 0, 1, 1, "s")
            self.assertEqual(first_meeting((north, late)), None)
            self.assertEqual(first_meeting((late, north)), (far + 1, 0, 1))
            long = engine_of(0, -far - 1, 0, 1, "ss")
            self.assertEqual(first_meeting((long, late)), (far + 1, 1, 0))

    def test_from_corner_to_corner(self):
        north, west = engine_of(-FAR, -FAR, 0, 1, "s"), engine_of(FAR, FAR, 3, 1, "s")
        self.assertEqual(first_meeting((north, west)), (2 * FAR, 1, 0))
        self.assertEqual(first_meeting((west, north)), (2 * FAR, 1, 0))
        self.assertIsNone(first_meeting((moved(north, 0, 1), west)))

    def test_a_straight_one_comes_to_a_wheel(self):
        # The wheel has the squares (0, 0), (1, 0), (1, -1), (0, -1).
        for far in (3, 4, 50, FAR):
            self.assertEqual(first_meeting((engine_of(0, -far, 0, 1, "s"), WHEEL)), (far - 1, 0, 1))
            self.assertEqual(first_meeting((WHEEL, engine_of(0, -far, 0, 1, "s"))), (far - 1, 1, 0))
            self.assertEqual(first_meeting((WHEEL, engine_of(-far, 0, 3, -1, "sss"))), (far, 1, 0))
            self.assertIsNone(first_meeting((WHEEL, engine_of(-1, -far, 0, 1, "s"))))
            self.assertIsNone(first_meeting((WHEEL, engine_of(0, -far, 0, -1, "s"))))

    def test_a_wheel_is_never_turned(self):
        for yard in free_yards(101, each=2):
            told = first_meeting(yard)
            if told is not None:
                self.assertNotEqual(kind_of(yard[told[1]]), "wheel")

    def test_meetings_in_beat_1(self):
        one, other = engine_of(0, 0, 0, 1, "s"), engine_of(0, 1, 1, 1, "s")
        self.assertEqual(first_meeting((one, other)), (1, 0, 1))
        self.assertIsNone(first_meeting((other, one)))

    def test_two_in_one_beat(self):
        one, other = engine_of(0, 0, 0, 1, "s"), engine_of(0, 1, 2, 1, "s")
        self.assertEqual(len(beats((one, other), 1)[1]), 2)
        self.assertEqual(first_meeting((one, other)), (1, 0, 1))
        # Two pairs meet in beat 5, the one of engines 1 and 2 ahead of the one of 0 and 3.
        yard = (engine_of(0, 10, 2, 1, "s"), engine_of(5, 0, 0, 1, "s"), engine_of(5, 9, 2, 1, "s"),
                engine_of(0, 0, 0, 1, "s"))
        self.assertEqual([row[:2] + row[3:4] for row in beats(yard, 5)[1]], [(5, 1, 2), (5, 2, 1), (5, 3, 0)])
        self.assertEqual(first_meeting(yard), (5, 1, 2))


class AgainstSingleBeats(unittest.TestCase):
    def test_yards_of_1_to_8(self):
        found = set()
        for yard in free_yards(102, each=4):
            told = first_meeting(yard)
            single = by_single_beats(yard, 600)
            if single is None:
                self.assertTrue(told is None or told[0] > 600, yard)
            else:
                self.assertEqual(told, single, yard)
            found.add((len(yard), told is None))
        self.assertTrue({(many, False) for many in range(2, 9)} | {(1, True), (2, True), (3, True)} <= found)

    def test_by_the_slow_way(self):
        for yard in free_yards(103, each=1):
            self.assertEqual(by_single_beats(yard, 30, slow_beats), by_single_beats(yard, 30))
            told = first_meeting(yard)
            self.assertEqual(told if told and told[0] <= 30 else None, by_single_beats(yard, 30, slow_beats))

    def test_pairs_that_meet_late_or_never(self):
        chance = Random(104)
        late, never = 0, 0
        while late < 30 or never < 60:
            yard = free_yard(chance, 2, chance.choice((4, 8)), chance.choice((3, 6, 12)))
            if first_meeting(yard) is not None:
                # So that they come from some way off, if they do.
                yard = gone_free(yard, -chance.randint(1, 1500))
            if lies_once(yard):
                told = first_meeting(yard)
                self.assertEqual(told, by_single_beats(yard, ALL_BEATS), yard)
                late += told is not None and told[0] > 20
                never += told is None

    def test_numbers_exchanged(self):
        chance = Random(105)
        unlike = 0
        for again in range(60):
            yard = free_yard(chance, 3, 5, 8)
            told = {}
            for order in permutations(range(3)):
                other = tuple(yard[number] for number in order)
                found = first_meeting(other)
                single = by_single_beats(other, 800)
                self.assertEqual(found if found is None or found[0] <= 800 else None, single)
                told[order] = found and (found[0], order[found[1]], order[found[2]])
            unlike += len(set(told.values())) > 1
        # The order of the turns matters now and then.
        self.assertGreater(unlike, 3)

    def test_the_first_of_all_pairs(self):
        for yard in free_yards(106, each=1):
            pairs = []
            for one, other in combinations(range(len(yard)), 2):
                told = first_meeting((yard[one], yard[other]))
                if told is not None:
                    pairs.append((told[0],) + tuple((one, other)[number] for number in told[1:]))
            self.assertEqual(first_meeting(yard), min(pairs, default=None))

    def test_looks_and_colours(self):
        for yard in free_yards(107, each=1):
            told = first_meeting(yard)
            bare = tuple((x, y, way, look, tuple((shape, 0) for shape, colour in rails))
                         for x, y, way, look, rails in yard)
            self.assertEqual(first_meeting(bare), told)
            about = tuple((x, y, way, -look, rails) for x, y, way, look, rails in yard)
            single, found = by_single_beats(about, 300), first_meeting(about)
            self.assertEqual(found if found and found[0] <= 300 else None, single)


class Closed(unittest.TestCase):
    """Rings and wheels: what one whole round of single beats doesn't show never is."""

    def test_rings_and_wheels(self):
        chance = Random(108)
        crossing, met = 0, 0
        while crossing < 40 or met < 40:
            one, other = random_free_engine(chance, 3, 8), random_free_engine(chance, 3, 8)
            if "drift" in (kind_of(one), kind_of(other)) or not lies_once((one, other)):
                continue
            whole = lcm(round_of(one), round_of(other))
            told = first_meeting((one, other))
            self.assertEqual(told, by_single_beats((one, other), whole), (one, other))
            roads = [{square for square, way in walked(engine, 0, round_of(engine)).values()}
                     for engine in (one, other)]
            # Those of most worth have squares in common and never meet.
            crossing += told is None and bool(roads[0] & roads[1])
            met += told is not None

    def test_never_and_far_from_each_other(self):
        self.assertIsNone(first_meeting((WHEEL, moved(WHEEL, 2, 0))))
        self.assertIsNone(first_meeting((WHEEL, moved(WHEEL, FAR, -FAR), moved(WHEEL, -FAR, FAR))))
        ring = engine_of(0, 0, 0, 1, "l")
        self.assertIsNone(first_meeting((ring, moved(ring, FAR, FAR))))


class FromFarOff(unittest.TestCase):
    def far_pairs(self, seed, many, shapes=None):
        """(yard, told): a drift with bends and another, or an engine of these shapes, that meet near after a far way."""
        chance = Random(seed)
        found = []
        while len(found) < many:
            one, other = random_free_engine(chance, 6, 8), random_free_engine(chance, 6, 8)
            if shapes is not None:
                other = engine_of(*other[:4], chance.choice(shapes))
            yard = (one, other) if chance.random() < 0.5 else (other, one)
            if self.bends_and_drifts(one) and lies_once(yard) and self.pace(one) != self.pace(other):
                told = first_meeting(yard)
                if told is not None and self.comes_from_far_off(yard, told):
                    found.append((yard, told))
        return found

    def bends_and_drifts(self, engine):
        return kind_of(engine) == "drift" and {shape for shape, colour in engine[4]} != {"s"}

    def pace(self, engine):
        """By how much it is led on in 2640 beats."""
        x, y = led_far(engine, 2640 * engine[3])[:2]
        return (x - engine[0], y - engine[1])

    def comes_from_far_off(self, yard, told):
        """Whether single beats bring it here without a meeting from 2640 beats (all rounds go into it) away."""
        earlier = gone_free(yard, -2640)
        return (lies_once(earlier)
                and by_single_beats(earlier, 2640 + told[0]) == (2640 + told[0],) + told[1:])

    def check_far(self, yard, told):
        # By whole rounds of both, so that they come the same way each time.
        whole = lcm(*[round_of(engine) for engine in yard])
        for rounds in (1, 7, 10 ** 4, FAR // whole - 2):
            earlier = gone_free(yard, -rounds * whole)
            self.assertEqual(first_meeting(earlier), (told[0] + rounds * whole,) + told[1:], (yard, rounds))

    def test_two_drifts_with_bends(self):
        pairs = [(yard, told) for yard, told in self.far_pairs(109, 30) if all(map(self.bends_and_drifts, yard))]
        self.assertGreater(len(pairs), 8)
        for yard, told in pairs:
            self.check_far(yard, told)

    def test_a_drift_comes_to_a_ring(self):
        for yard, told in self.far_pairs(110, 20, ("l", "rr", "ssr", "slsssls", "lsssrlss")):
            self.assertIn("ring", [kind_of(engine) for engine in yard])
            self.check_far(yard, told)

    def test_a_drift_comes_to_a_wheel(self):
        for yard, told in self.far_pairs(111, 12, ("rrrr", "llll", "srsrsrsr", "ssrssrssrssr", "rlrrlrrlrrlr")):
            self.assertIn("wheel", [kind_of(engine) for engine in yard])
            self.check_far(yard, told)

    def test_a_fast_one_behind_a_slow_one(self):
        fast = engine_of(0, 0, 0, 1, "s")
        for slow in (SLOW, LESS_SLOW):
            for ahead in (2, 3, 10, 11, 50):
                yard = (fast, moved(slow, 0, ahead))
                told = by_single_beats(yard, 400)
                self.assertIsNotNone(told)
                self.assertEqual(first_meeting(yard), told)
                # 20 beats bring them nearer by 10 squares, or by 8.
                nearer = 20 - 20 * once_round(slow)[2] // len(slow[4])
                for times in (1, 3, FAR // 40):
                    farther = (fast, moved(slow, 0, ahead + times * nearer))
                    self.assertEqual(first_meeting(farther), (told[0] + 20 * times,) + told[1:])

    def test_beyond_the_bound(self):
        # What a function told may be handed on.
        one, other = engine_of(0, -FAR, 0, 1, "s"), engine_of(0, FAR, 2, 1, "s")
        for away in (10, FAR, 10 ** 15):
            earlier = (led_far(one, -away), led_far(other, -away))
            self.assertEqual(first_meeting(earlier), (FAR + away, 1, 0))


class Refused(unittest.TestCase):
    def test_the_first_that_is_not_free(self):
        free = [engine_of(20 * at, 20, 0, 1, "s") for at in range(8)]
        for many in range(1, 9):
            for at in range(many):
                yard = tuple(moved(OWN_WAY, 20 * number, 0) if number == at else free[number]
                             for number in range(many))
                self.own_way(yard, at)
                # More of them behind it: the first one's number all the same.
                yard = yard[:at + 1] + tuple(moved(OWN_WAY, 20 * number, 0) for number in range(at + 1, many))
                self.own_way(yard, at)

    def test_ahead_of_all_else(self):
        # Engines 0 and 1 meet in beat 1.
        yard = (engine_of(0, 10, 0, 1, "s"), engine_of(0, 11, 2, 1, "s"), OWN_WAY)
        self.assertIsNotNone(first_meeting(yard[:2]))
        self.own_way(yard, 2)
        self.own_way((OWN_WAY,), 0)

    def test_not_free_later_on_alone(self):
        # It goes on some times ahead of being turned by itself.
        self.own_way((engine_of(0, 0, 1, 1, "llsssls"),), 0)

    def own_way(self, yard, number):
        with self.assertRaises(OwnWay) as caught:
            first_meeting(yard)
        self.assertEqual(caught.exception.number, number)


class Kept(unittest.TestCase):
    def test_what_was_handed_in_is_as_it_was(self):
        for yard in free_yards(112, each=1):
            copied = copy.deepcopy(yard)
            told = first_meeting(yard)
            first_meeting((WHEEL,))
            self.assertEqual(yard, copied)
            self.assertEqual(first_meeting(yard), told)
            self.assertIn(type(told), (tuple, type(None)))

    def test_names_of_the_arguments(self):
        self.assertEqual(str(inspect.signature(meetings.first_meeting)), "(yard)")
        self.assertIsNone(first_meeting(yard=(WHEEL,)))


if __name__ == "__main__":
    unittest.main()
