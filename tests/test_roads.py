"""Points [8] to [11]: places, once round, kinds, rounds, places of a square, free, room, gone between."""

import inspect
import unittest
from itertools import product
from random import Random

from ownrail import roads
from ownrail.roads import gone_between, is_free, kind_of, once_round, place_of, places_of, room_of, round_of
from samples import BENDS, FAR, HEADINGS, LOOKS, SHAPES, WAYS, as_square, gone_by, long_engines, rails_of, short_engines
from samples import walked
from yard_samples import engine_of, lies_once, random_engine, slow_squares

FARTHEST = 1_000_000_000_000
WHEEL = engine_of(0, 0, 0, 1, "rrrr")
LONG_WHEEL = engine_of(2, -3, 1, -1, "ssrsrssrsr")
DRIFT = engine_of(0, 0, 0, 1, "s")
BENT_DRIFT = engine_of(5, 5, 2, 1, "srllsr")
# Turned by 1, 2, 3 quarters.
RINGS = (engine_of(0, 0, 0, 1, "ssr"), engine_of(-1, 4, 3, -1, "srsr"), engine_of(7, 7, 1, 1, "lss"))


def road_engines():
    """Engines of all kinds, of 1 to 12 rails."""
    yield from (WHEEL, LONG_WHEEL, DRIFT, BENT_DRIFT)
    yield from RINGS
    chance = Random(31)
    for many in range(1, 13):
        for again in range(6):
            yield random_engine(chance, 5, many)
        yield engine_of(again, -again, many % 4, 1, ("srl" * 4)[:many])


def slow_once_round(engine):
    many = len(engine[4])
    road = walked(engine, 0, many)
    (x, y), way = road[many]
    return ((way - engine[2]) % 4, x - engine[0], y - engine[1])


def slow_round(engine):
    turned = slow_once_round(engine)[0]
    return len(engine[4]) * {0: 1, 1: 4, 2: 2, 3: 4}[turned]


def slow_is_free(engine):
    many = len(engine[4])
    road = walked(engine, 0, 2 * many)
    return not any(road[i][0] == road[j][0] for i in range(many) for j in range(i + 1, i + many))


def slow_room(engine, look):
    """How many single steps it can go, or None behind 30 of them."""
    many = len(engine[4])
    for gone in range(30):
        there = gone_by(engine, gone * look)
        road = walked(there, -1, many)
        own = [road[at][0] for at in range(many)]
        kept, wanted = (own[1:], road[many][0]) if look == 1 else (own[:-1], road[-1][0])
        if wanted in kept:
            return gone
    return None


class Places(unittest.TestCase):
    def test_by_hand(self):
        engine = (4, -2, 0, 1, (("s", 0), ("l", 3), ("r", 1)))
        told = {-3: ((5, -4), 0), -1: ((4, -3), 3), 0: ((4, -2), 0), 1: ((4, -1), 0), 2: ((3, -1), 3),
                3: ((3, 0), 0), 6: ((2, 2), 0), 300: ((-96, 198), 0)}
        for i, place in told.items():
            self.assertEqual(place_of(engine, i), place, i)

    def test_near_against_a_walk(self):
        for engine in list(short_engines(3)) + list(long_engines()) + list(road_engines()):
            road = walked(engine, -60, 60) if abs(engine[0]) < FAR else walked(engine, -15, 15)
            for i in road:
                self.assertEqual(place_of(engine, i), road[i], (engine, i))

    def test_the_engine_lies_on_the_first_places(self):
        for engine in road_engines():
            squares = [place_of(engine, i)[0] for i in range(len(engine[4]))]
            self.assertEqual(squares, slow_squares(engine))
            self.assertEqual(place_of(engine, 0), ((engine[0], engine[1]), engine[2]))

    def test_gone_on_by_k_it_lies_on_k(self):
        for engine in road_engines():
            for k in (-37, -12, -1, 1, 5, 30):
                gone = gone_by(engine, k)
                for i in range(-3, 16):
                    self.assertEqual(place_of(gone, i), place_of(engine, i + k))

    def check_next_one(self, engine, i):
        """Place i + 1 is the one on which one comes from place i."""
        (x, y), way = place_of(engine, i)
        heading = HEADINGS[way] * BENDS[engine[4][i % len(engine[4])][0]]
        self.assertEqual(place_of(engine, i + 1), (as_square(complex(x, y) + heading), HEADINGS.index(heading)))

    def test_far_one_by_one(self):
        for engine in road_engines():
            for middle in (FARTHEST - 30, -FARTHEST + 30, 123_456_789_012, -98_765_432_109, 10 ** 6):
                for i in range(middle - 13, middle + 13):
                    self.check_next_one(engine, i)

    def test_far_along_a_drift(self):
        for i in (FARTHEST, -FARTHEST, FARTHEST - 1, 0, 7):
            self.assertEqual(place_of(DRIFT, i), ((0, i), 0))
            self.assertEqual(place_of(engine_of(FAR, -FAR, 1, -1, "sss"), i), ((FAR + i, -FAR), 1))
            self.assertEqual(place_of(engine_of(0, 0, 0, 1, "lr"), 2 * i), ((-i, i), 0))
            self.assertEqual(place_of(engine_of(0, 0, 0, 1, "lr"), 2 * i + 1), ((-i - 1, i), 3))

    def test_far_round_a_ring_or_wheel(self):
        for engine in road_engines():
            turned, dx, dy = slow_once_round(engine)
            many = slow_round(engine)
            road = walked(engine, 0, many)
            for i in (FARTHEST, -FARTHEST, FARTHEST - 17, -FARTHEST + 29, 5 * 10 ** 11 + 3):
                rounds, rest = divmod(i, many)
                (x, y), way = road[rest]
                if turned == 0:
                    x, y = x + rounds * dx, y + rounds * dy
                self.assertEqual(place_of(engine, i), ((x, y), way), (engine, i))

    def test_look_and_colours_do_not_matter(self):
        for x, y, way, look, rails in road_engines():
            for colour in (0, 9):
                painted = tuple((shape, colour) for shape, elder in rails)
                for i in (-9, -1, 0, 1, 14, FARTHEST):
                    self.assertEqual(place_of((x, y, way, -look, painted), i), place_of((x, y, way, look, rails), i))

    def test_two_rails_on_one_square(self):
        for engine in (engine_of(0, 0, 0, 1, "srrrs"), engine_of(0, 0, 0, -1, "rrrrr")):
            self.assertFalse(lies_once((engine,)))
            road = walked(engine, -30, 30)
            for i in road:
                self.assertEqual(place_of(engine, i), road[i])

    def test_kinds_of_values(self):
        place = place_of(BENT_DRIFT, 5)
        self.assertEqual((type(place), type(place[0]), type(place[1])), (tuple, tuple, int))


class OnceRound(unittest.TestCase):
    def test_by_hand(self):
        for engine, told, kind, many in (
                (WHEEL, (0, 0, 0), "wheel", 4), (DRIFT, (0, 0, 1), "drift", 1), (RINGS[0], (1, 1, 2), "ring", 12),
                (LONG_WHEEL, (0, 0, 0), "wheel", 10), (RINGS[1], (2, 0, 2), "ring", 8), (RINGS[2], (3, 0, 3), "ring", 12),
                (engine_of(0, 0, 0, 1, "l"), (3, -1, 0), "ring", 4), (engine_of(0, 0, 0, 1, "r"), (1, 1, 0), "ring", 4),
                (engine_of(0, 0, 0, 1, "rr"), (2, 1, -1), "ring", 4), (engine_of(0, 0, 0, 1, "rl"), (0, 1, 1), "drift", 2),
                (engine_of(0, 0, 3, 1, "llll"), (0, 0, 0), "wheel", 4)):
            self.assertEqual(once_round(engine), told, engine)
            self.assertEqual((kind_of(engine), round_of(engine)), (kind, many), engine)

    def test_against_a_walk(self):
        for engine in list(short_engines(4)) + list(long_engines()) + list(road_engines()):
            turned, dx, dy = slow_once_round(engine)
            self.assertEqual(once_round(engine), (turned, dx, dy))
            kind = "ring" if turned else "drift" if (dx, dy) != (0, 0) else "wheel"
            self.assertEqual(kind_of(engine), kind)
            self.assertEqual(round_of(engine), slow_round(engine))

    def test_turned_is_r_less_l(self):
        for engine in road_engines():
            shapes = [shape for shape, colour in engine[4]]
            self.assertEqual(once_round(engine)[0], (shapes.count("r") - shapes.count("l")) % 4)

    def test_one_round_on(self):
        for engine in road_engines():
            many = round_of(engine)
            dx, dy = once_round(engine)[1:] if kind_of(engine) == "drift" else (0, 0)
            road = walked(engine, -20, 20 + many)
            for i in range(-20, 21):
                (x, y), way = road[i]
                self.assertEqual(road[i + many], ((x + dx, y + dy), way))

    def test_all_kinds_and_quarters_are_among_the_samples(self):
        found = {(kind_of(engine), once_round(engine)[0]) for engine in road_engines()}
        self.assertEqual(found, {("wheel", 0), ("drift", 0), ("ring", 1), ("ring", 2), ("ring", 3)})
        self.assertEqual({len(engine[4]) for engine in road_engines()}, set(range(1, 13)))

    def test_kinds_of_values(self):
        self.assertEqual([type(part) for part in once_round(DRIFT)], [int, int, int])
        self.assertEqual((type(once_round(DRIFT)), type(kind_of(DRIFT)), type(round_of(DRIFT))), (tuple, str, int))


class PlacesOfASquare(unittest.TestCase):
    def by_squares(self, engine):
        """{square: places} of the places that may be told of squares near the engine, by a walk."""
        # 150 places reach beyond the squares that are asked for, by any drift of 12 rails.
        first, last = (-150, 150) if kind_of(engine) == "drift" else (0, slow_round(engine) - 1)
        road = walked(engine, first, last)
        found = {}
        for i in range(first, last + 1):
            found.setdefault(road[i][0], []).append(i)
        return found

    def check(self, engine, square, found):
        many = 0 if kind_of(engine) == "drift" else slow_round(engine)
        self.assertEqual(places_of(engine, square), (tuple(found.get(square, ())), many), (engine, square))

    def test_by_hand(self):
        self.assertEqual(places_of(WHEEL, (0, 0)), ((0,), 4))
        self.assertEqual(places_of(WHEEL, (1, -1)), ((2,), 4))
        self.assertEqual(places_of(WHEEL, (0, 1)), ((), 4))
        self.assertEqual(places_of(DRIFT, (0, -7)), ((-7,), 0))
        self.assertEqual(places_of(DRIFT, (1, 0)), ((), 0))
        self.assertEqual(places_of(engine_of(0, 0, 0, 1, "l"), (-1, 0)), ((1,), 4))

    def test_squares_near_against_a_walk(self):
        for engine in road_engines():
            found = self.by_squares(engine)
            for dx, dy in product(range(-6, 7), repeat=2):
                self.check(engine, (engine[0] + dx, engine[1] + dy), found)

    def test_places_that_share_a_square(self):
        several = 0
        for engine in road_engines():
            found = self.by_squares(engine)
            road = walked(engine, -15, 15)
            for i in range(-15, 16):
                places, many = places_of(engine, road[i][0])
                several += len(places) > 1
                self.assertIn(i % many if many else i, places)
                self.check(engine, road[i][0], found)
        self.assertGreater(several, 100)

    def test_far_off_along_a_drift(self):
        for engine in road_engines():
            turned, dx, dy = slow_once_round(engine)
            if turned or (dx, dy) == (0, 0):
                continue
            many = len(engine[4])
            for rounds in (10 ** 7, -10 ** 7, 12_345_678):
                for i in range(rounds * many, rounds * many + many):
                    square = place_of(engine, i)[0]
                    near = places_of(engine, (square[0] - rounds * dx, square[1] - rounds * dy))[0]
                    self.assertEqual(places_of(engine, square), (tuple(j + rounds * many for j in near), 0))
                    self.assertIn(i, places_of(engine, square)[0])

    def test_far_off_beside_the_road(self):
        for square in ((1, FAR), (-1, -FAR), (FAR, 0), (FAR, FAR)):
            self.assertEqual(places_of(DRIFT, square), ((), 0))
            self.assertEqual(places_of(WHEEL, square), ((), 4))
            self.assertEqual(places_of(RINGS[0], square), ((), 12))
        self.assertEqual(places_of(DRIFT, (0, FAR)), ((FAR,), 0))
        self.assertEqual(places_of(engine_of(0, 0, 0, 1, "lr"), (-FAR, FAR)), ((2 * FAR,), 0))
        self.assertEqual(places_of(engine_of(0, 0, 0, 1, "lr"), (FAR, FAR)), ((), 0))

    def test_a_drift_over_one_square_rises_by_places_not_by_rests(self):
        # Once round it goes about a ring of four and on, so it comes over its own squares.
        engine = engine_of(0, 0, 0, 1, "srrrrs")
        self.assertEqual(kind_of(engine), "drift")
        found = self.by_squares(engine)
        road = walked(engine, -20, 20)
        for i in range(-20, 21):
            self.check(engine, road[i][0], found)
        self.assertEqual(places_of(engine, (0, 1)), ((1, 5), 0))


class Free(unittest.TestCase):
    def test_by_hand(self):
        for engine in (DRIFT, WHEEL, LONG_WHEEL, RINGS[0], engine_of(0, 0, 0, 1, "l"), engine_of(0, 0, 0, 1, "rr")):
            self.assertIs(is_free(engine), True)
            self.assertEqual(room_of(engine), (None, None))
        # Gone forward by 2 it wants a square of its own.
        over = engine_of(0, 0, 0, 1, "rrssr")
        self.assertIs(is_free(over), False)
        self.assertEqual(room_of(over), (slow_room(over, -1), 2))

    def test_free_against_a_walk(self):
        found = {True: 0, False: 0}
        for engine in list(short_engines(5))[::4] + list(road_engines()) + list(long_engines())[::7]:
            if lies_once((engine,)):
                self.assertIs(is_free(engine), slow_is_free(engine), engine)
                found[is_free(engine)] += 1
        self.assertGreater(min(found.values()), 30)

    def test_room_against_single_steps(self):
        rooms = set()
        for engine in road_engines():
            told = room_of(engine)
            self.assertEqual(told, (slow_room(engine, -1), slow_room(engine, 1)), engine)
            self.assertEqual(told == (None, None), is_free(engine))
            rooms |= set(told)
        self.assertTrue({None, 0, 1, 2, 3} <= rooms, rooms)

    def test_all_of_five_and_six_rails(self):
        for many in (5, 6):
            for shapes in product(SHAPES, repeat=many):
                engine = engine_of(0, 0, 1, 1, "".join(shapes))
                if lies_once((engine,)):
                    self.assertEqual(room_of(engine), (slow_room(engine, -1), slow_room(engine, 1)), engine)
                    self.assertIs(is_free(engine), slow_is_free(engine), engine)

    def test_the_look_does_not_matter(self):
        for x, y, way, look, rails in road_engines():
            self.assertEqual(room_of((x, y, way, look, rails)), room_of((x, y, way, -look, rails)))
            self.assertIs(is_free((x, y, way, look, rails)), is_free((x, y, way, -look, rails)))

    def test_led_on_its_room_moves(self):
        for engine in road_engines():
            back, forward = room_of(engine)
            if back is None:
                self.assertTrue(is_free(gone_by(engine, 17)))
            else:
                for k in range(-back, forward + 1):
                    self.assertEqual(room_of(gone_by(engine, k)), (back + k, forward - k))


class GoneBetween(unittest.TestCase):
    def other_dress(self, engine):
        x, y, way, look, rails = engine
        return (x, y, way, -look, tuple((shape, 9 - colour) for shape, colour in rails))

    def slow_between(self, one, other):
        """The number looked for among all of a round, or of many rounds of a drift; looks and colours left out."""
        bare = [(e[:3], [shape for shape, colour in e[4]]) for e in (one, other)]
        many = slow_round(one)
        drift = kind_of(one) == "drift"
        for k in range(-40, 41) if drift else range(many):
            gone = gone_by(one, k)
            if (gone[:3], [shape for shape, colour in gone[4]]) == bare[1]:
                return k
        return None

    def test_gone_on_by_any_number(self):
        for engine in road_engines():
            for k in list(range(-26, 27)) + [37, -38]:
                gone = gone_by(engine, k)
                told = gone_between(engine, self.other_dress(gone))
                self.assertEqual(told, self.slow_between(engine, gone), (engine, k))
                self.assertEqual(gone_between(engine, gone), told)
                if kind_of(engine) == "drift":
                    self.assertEqual(told, k)

    def test_itself(self):
        for engine in road_engines():
            self.assertEqual(gone_between(engine, engine), 0)
            self.assertEqual(gone_between(engine, self.other_dress(engine)), 0)

    def test_far_along_a_drift(self):
        for k in (10 ** 9, -10 ** 9, 987_654_321):
            self.assertEqual(gone_between(DRIFT, engine_of(0, k, 0, -1, "s")), k)
            self.assertEqual(gone_between(engine_of(0, 0, 0, 1, "lr"), engine_of(-k, k, 0, -1, "lr")), 2 * k)
            self.assertEqual(gone_between(engine_of(0, 0, 0, 1, "lr"), engine_of(-k - 1, k, 3, -1, "rl")), 2 * k + 1)

    def test_the_least_of_a_ring_or_wheel(self):
        self.assertEqual(gone_between(WHEEL, engine_of(1, 0, 1, 1, "rrrr")), 1)
        self.assertEqual(gone_between(WHEEL, engine_of(0, -1, 3, 1, "rrrr")), 3)
        self.assertEqual(gone_between(engine_of(0, 0, 0, 1, "ll"), engine_of(-1, 0, 3, 1, "ll")), 1)
        # Its round is 12, but it lies the same each 4 places on.
        for k in range(12):
            self.assertEqual(gone_between(engine_of(0, 0, 0, 1, "rrr"), gone_by(engine_of(0, 0, 0, 1, "rrr"), k)), k % 4)
            self.assertEqual(gone_between(engine_of(0, 0, 0, 1, "srs"), gone_by(engine_of(0, 0, 0, 1, "srs"), k)), k)

    def test_unlike_in_one_thing(self):
        for engine in road_engines():
            x, y, way, look, rails = gone_by(engine, 5)
            changed = [(x + 1, y, way, look, rails), (x, y - 1, way, look, rails), (x, y, (way + 1) % 4, look, rails),
                       (x, y, (way + 2) % 4, look, rails)]
            for at, (shape, colour) in enumerate(rails):
                for other in SHAPES:
                    changed.append((x, y, way, look, rails[:at] + ((other, colour),) + rails[at + 1:]))
            for other in changed:
                self.assertEqual(gone_between(engine, other), self.slow_between(engine, other), (engine, other))

    def test_none_by_hand(self):
        self.assertIsNone(gone_between(DRIFT, engine_of(1, 0, 0, 1, "s")))
        self.assertIsNone(gone_between(DRIFT, engine_of(0, 5, 2, 1, "s")))
        self.assertIsNone(gone_between(DRIFT, engine_of(0, 5, 0, 1, "l")))
        self.assertIsNone(gone_between(WHEEL, engine_of(0, 0, 0, 1, "rrrs")))
        # The same squares and shapes, gone the other way about.
        self.assertIsNone(gone_between(WHEEL, engine_of(0, 0, 1, 1, "rrrr")))

    def test_unlike_numbers_of_rails(self):
        for one, other in product(range(1, 13), repeat=2):
            told = gone_between(engine_of(0, 0, 0, 1, "s" * one), engine_of(0, 0, 0, 1, "s" * other))
            self.assertEqual(told, 0 if one == other else None)
        # The road is the same, but twice as many rails lie on it.
        self.assertIsNone(gone_between(engine_of(0, 0, 0, 1, "rr"), engine_of(0, 0, 0, 1, "rrrr")))
        self.assertIsNone(gone_between(engine_of(0, 0, 0, 1, "lrlr"), engine_of(0, 0, 0, 1, "lr")))

    def test_pairs_of_engines(self):
        chance = Random(32)
        for again in range(300):
            one, other = random_engine(chance, 1, 3), random_engine(chance, 1, 3)
            self.assertEqual(gone_between(one, other), self.slow_between(one, other), (one, other))


class Interface(unittest.TestCase):
    def test_names_of_the_arguments(self):
        told = {"place_of": "(engine, i)", "once_round": "(engine)", "kind_of": "(engine)", "round_of": "(engine)",
                "places_of": "(engine, square)", "is_free": "(engine)", "room_of": "(engine)",
                "gone_between": "(one, other)"}
        for name, arguments in told.items():
            self.assertEqual(str(inspect.signature(getattr(roads, name))), arguments)
        self.assertEqual(place_of(i=3, engine=DRIFT), ((0, 3), 0))
        self.assertEqual(places_of(square=(0, 3), engine=DRIFT), ((3,), 0))
        self.assertEqual(gone_between(other=engine_of(0, 2, 0, 1, "s"), one=DRIFT), 2)

    def test_all_ways_and_looks(self):
        for way, look in product(WAYS, LOOKS):
            engine = (0, 0, way, look, rails_of("s"))
            self.assertEqual(kind_of(engine), "drift")
            self.assertEqual(once_round(engine), (0, *as_square(HEADINGS[way])))


if __name__ == "__main__":
    unittest.main()
