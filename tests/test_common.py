"""Point [17]: all pairs of places by which two roads have a square in common; and what point [3] says of it."""

import copy
import inspect
import unittest
from itertools import product
from random import Random

from ownrail import common
from ownrail.common import pairs_of_roads
from ownrail.roads import kind_of, place_of, round_of
from samples import FAR, gone_by, walked
from yard_samples import engine_of, random_engine

KINDS = ("ring", "wheel", "drift")
WHEEL = engine_of(0, 0, 0, 1, "rrrr")
NORTH = engine_of(0, 0, 0, 1, "s")
# How far the slow way looks along drifts: far enough for all crossings of the samples.
WINDOW = 3000
GIVEN = (
    WHEEL, engine_of(-1, 1, 2, -1, "llll"), engine_of(2, -3, 1, -1, "ssrsrssrsr"),
    engine_of(0, 0, 0, 1, "l"), engine_of(1, 0, 1, 1, "rrr"), engine_of(0, 1, 0, 1, "ssr"),
    engine_of(-1, 2, 3, -1, "srsr"), engine_of(2, 1, 1, 1, "lss"),
    NORTH, engine_of(1, 1, 2, 1, "sss"), engine_of(0, 4, 2, -1, "ss"), engine_of(-3, 0, 1, 1, "ss"),
    engine_of(2, 2, 3, 1, "sssss"), engine_of(0, 0, 0, 1, "lr"), engine_of(1, 3, 0, 1, "rl"),
    engine_of(0, 1, 1, 1, "slsr"), engine_of(-2, 0, 2, 1, "lsrs"), engine_of(0, 0, 0, 1, "srrrrs"),
    # Each comes back over its own squares.
    engine_of(1, -1, 1, 1, "slllls"), engine_of(0, 2, 1, 1, "rrsslls"),
)


def sample_engines():
    chance = Random(81)
    found = list(GIVEN)
    while len(found) < 36:
        found.append(random_engine(chance, 2, 5))
    return found


class Slow:
    """An engine's road by a walk: {square: places}, of a drift from -WINDOW to WINDOW, else of one round."""

    def __init__(self, engine):
        self.many = round_of(engine)
        self.drifts = kind_of(engine) == "drift"
        self.first, self.last = (-WINDOW, WINDOW) if self.drifts else (0, self.many - 1)
        road = walked(engine, self.first, self.last)
        self.squares = {i: road[i][0] for i in range(self.first, self.last + 1)}
        self.places = {}
        for i, square in self.squares.items():
            self.places.setdefault(square, []).append(i)


def slow_rows(one, other):
    groups = {}
    for square in set(one.places) & set(other.places):
        for i, j in product(one.places[square], other.places[square]):
            groups.setdefault((i % one.many, j % other.many), []).append((i, j))
    return tuple(slow_row(one, other, sorted(groups[key])) for key in sorted(groups))


def slow_row(one, other, pairs):
    if not one.drifts and not other.drifts:
        return (*pairs[0], ((one.many, 0), (0, other.many)))
    if not one.drifts or not other.drifts:
        return (*pairs[0], ((0, other.many),) if one.drifts else ((one.many, 0),))
    if len(pairs) == 1:
        return (*pairs[0], ())
    step = (pairs[1][0] - pairs[0][0], pairs[1][1] - pairs[0][1])
    [(i, j)] = [pair for pair in pairs if 0 <= pair[0] < step[0]]
    return (i, j, (step,))


def all_of_row(row, times):
    """Pairs of a row, each step added each of these numbers of times."""
    i, j, steps = row
    for added in product(times, repeat=len(steps)):
        yield (i + sum(k * p for k, (p, q) in zip(added, steps)), j + sum(k * q for k, (p, q) in zip(added, steps)))


class ByHand(unittest.TestCase):
    def test_two_wheels(self):
        steps = ((4, 0), (0, 4))
        self.assertEqual(pairs_of_roads(WHEEL, WHEEL), tuple((at, at, steps) for at in range(4)))
        self.assertEqual(pairs_of_roads(WHEEL, engine_of(1, 0, 0, 1, "rrrr")), ((1, 0, steps), (2, 3, steps)))
        self.assertEqual(pairs_of_roads(WHEEL, engine_of(2, 0, 0, 1, "rrrr")), ())

    def test_a_drift_and_a_wheel(self):
        self.assertEqual(pairs_of_roads(engine_of(0, -9, 0, 1, "s"), WHEEL), ((9, 0, ((0, 4),)), (8, 3, ((0, 4),))))
        self.assertEqual(pairs_of_roads(WHEEL, engine_of(0, -9, 0, 1, "s")), ((0, 9, ((4, 0),)), (3, 8, ((4, 0),))))
        self.assertEqual(pairs_of_roads(engine_of(0, 9, 0, 1, "s"), WHEEL), ((-9, 0, ((0, 4),)), (-10, 3, ((0, 4),))))
        self.assertEqual(pairs_of_roads(engine_of(5, 0, 0, 1, "s"), WHEEL), ())

    def test_a_drift_and_a_ring(self):
        ring = engine_of(0, 0, 0, 1, "l")
        self.assertEqual(pairs_of_roads(engine_of(-7, 0, 1, 1, "s"), ring), ((7, 0, ((0, 4),)), (6, 1, ((0, 4),))))
        self.assertEqual(pairs_of_roads(engine_of(-7, 0, 1, 1, "ss"), ring), ((6, 1, ((0, 4),)), (7, 0, ((0, 4),))))

    def test_two_drifts_that_cross(self):
        self.assertEqual(pairs_of_roads(NORTH, engine_of(-5, 7, 1, 1, "s")), ((7, 5, ()),))
        self.assertEqual(pairs_of_roads(engine_of(0, 0, 0, 1, "sss"), engine_of(-5, 7, 1, 1, "ss")), ((7, 5, ()),))
        self.assertEqual(pairs_of_roads(NORTH, engine_of(-5, -7, 3, 1, "s")), ((-7, -5, ()),))

    def test_two_drifts_abreast(self):
        self.assertEqual(pairs_of_roads(NORTH, engine_of(0, 5, 0, 1, "s")), ((0, -5, ((1, 1),)),))
        self.assertEqual(pairs_of_roads(NORTH, engine_of(0, 5, 2, 1, "s")), ((0, 5, ((1, -1),)),))
        self.assertEqual(pairs_of_roads(NORTH, engine_of(1, 5, 0, 1, "s")), ())
        # Rests by 2 and 3: each pair of them there is, each 6 places on.
        self.assertEqual(
            pairs_of_roads(engine_of(0, 0, 0, 1, "ss"), engine_of(0, 0, 2, 1, "sss")),
            ((0, 0, ((6, -6),)), (2, -2, ((6, -6),)), (4, -4, ((6, -6),)),
             (3, -3, ((6, -6),)), (5, -5, ((6, -6),)), (1, -1, ((6, -6),))))

    def test_stairs(self):
        # Stairs and a straight road go over two squares together.
        self.assertEqual(pairs_of_roads(engine_of(0, 0, 0, 1, "lr"), NORTH), ((0, 0, ()), (-1, -1, ())))
        # Two stairs side by side: every second square of the one is one of the other.
        told = pairs_of_roads(engine_of(0, 0, 0, 1, "lr"), engine_of(-1, 0, 0, 1, "lr"))
        self.assertEqual(told, ((1, 0, ((2, 2),)),))

    def test_far_from_each_other(self):
        self.assertEqual(pairs_of_roads(engine_of(-FAR, -FAR, 0, 1, "s"), engine_of(FAR, FAR, 3, 1, "s")),
                         ((2 * FAR, 2 * FAR, ()),))
        self.assertEqual(pairs_of_roads(engine_of(0, -FAR, 0, 1, "s"), engine_of(0, FAR, 0, 1, "s")),
                         ((0, -2 * FAR, ((1, 1),)),))
        self.assertEqual(pairs_of_roads(engine_of(0, -FAR, 0, 1, "s"), WHEEL),
                         ((FAR, 0, ((0, 4),)), (FAR - 1, 3, ((0, 4),))))
        self.assertEqual(pairs_of_roads(engine_of(FAR, 0, 0, 1, "rrrr"), WHEEL), ())


class AgainstAWalk(unittest.TestCase):
    @classmethod
    def setUpClass(cls):
        cls.engines = sample_engines()
        cls.slow = [Slow(engine) for engine in cls.engines]

    def pairs(self):
        for one, other in product(range(len(self.engines)), repeat=2):
            yield self.engines[one], self.engines[other], self.slow[one], self.slow[other]

    def test_all_rows(self):
        found = {}
        for one, other, slow_one, slow_other in self.pairs():
            told = pairs_of_roads(one, other)
            self.assertEqual(told, slow_rows(slow_one, slow_other), (one, other))
            found.setdefault((kind_of(one), kind_of(other)), set()).add(len(told) > 0)
        # All nine pairs of kinds, each with squares in common and with none.
        self.assertEqual(found, {kinds: {True, False} for kinds in product(KINDS, repeat=2)})

    def test_steps_of_each_case(self):
        below, crossing = 0, 0
        for one, other, slow_one, slow_other in self.pairs():
            drifts = (slow_one.drifts, slow_other.drifts)
            for i, j, steps in pairs_of_roads(one, other):
                if drifts == (False, False):
                    self.assertEqual(steps, ((slow_one.many, 0), (0, slow_other.many)))
                elif drifts == (True, False):
                    self.assertEqual((steps, j in range(slow_other.many)), (((0, slow_other.many),), True))
                elif drifts == (False, True):
                    self.assertEqual((steps, i in range(slow_one.many)), (((slow_one.many, 0),), True))
                elif steps:
                    [(p, q)] = steps
                    self.assertTrue(0 <= i < p and q != 0)
                    self.assertEqual((p % slow_one.many, q % slow_other.many), (0, 0))
                    below += q < 0
                else:
                    crossing += 1
        self.assertGreater(min(below, crossing), 10)

    def test_rows_by_u_then_by_v(self):
        for one, other, slow_one, slow_other in self.pairs():
            rests = [(i % slow_one.many, j % slow_other.many) for i, j, steps in pairs_of_roads(one, other)]
            self.assertEqual(rests, sorted(set(rests)))

    def test_pairs_of_a_row_near_and_far(self):
        for one, other, slow_one, slow_other in list(self.pairs())[::3]:
            for row in pairs_of_roads(one, other)[:6]:
                for i, j in all_of_row(row, (0, 1, -1, 1000, -10 ** 9)):
                    self.assertEqual(place_of(one, i)[0], place_of(other, j)[0], (one, other, i, j))

    def test_each_pair_is_in_one_row(self):
        for one, other, slow_one, slow_other in list(self.pairs())[::5]:
            rows = {(i % slow_one.many, j % slow_other.many): (i, j, steps)
                    for i, j, steps in pairs_of_roads(one, other)}
            road, road_of_other = walked(one, -25, 25), walked(other, -25, 25)
            for i, j in product(range(-25, 26), repeat=2):
                row = rows.get((i % slow_one.many, j % slow_other.many))
                self.assertEqual(row is not None and self.is_in(row, i, j), road[i][0] == road_of_other[j][0])

    def is_in(self, row, i, j):
        """Whether (i, j), which leaves the row's rests, is one of its pairs."""
        first, second, steps = row
        if len(steps) == 2:
            return True
        if steps == ():
            return (i, j) == (first, second)
        [(p, q)] = steps
        if p == 0:
            return i == first
        if q == 0:
            return j == second
        return (i - first) % p == 0 and j - second == (i - first) // p * q

    def test_the_other_way_about(self):
        for one, other, slow_one, slow_other in self.pairs():
            if not slow_one.drifts or not slow_other.drifts:
                turned = {(j, i, tuple((q, p) for p, q in steps[::-1])) for i, j, steps in pairs_of_roads(one, other)}
                self.assertEqual(turned, set(pairs_of_roads(other, one)))
            else:
                self.assertEqual(len(pairs_of_roads(one, other)), len(pairs_of_roads(other, one)))


class Itself(unittest.TestCase):
    def test_against_itself(self):
        for engine in sample_engines():
            told = pairs_of_roads(engine, engine)
            many = round_of(engine)
            steps = ((many, many),) if kind_of(engine) == "drift" else ((many, 0), (0, many))
            for at in range(many):
                self.assertIn((at, at, steps), told)
            squares = [place_of(engine, i)[0] for i in range(many)]
            if kind_of(engine) != "drift":
                self.assertEqual(len(told), sum(squares.count(square) for square in squares))

    def test_led_on_along_its_own_road(self):
        for engine in sample_engines():
            many = round_of(engine)
            for k in (-13, -1, 1, 2, 20):
                rows = {(i, j % many if kind_of(engine) != "drift" else j)
                        for i, j, steps in pairs_of_roads(engine, gone_by(engine, k))}
                for i in range(many):
                    self.assertIn((i, i - k if kind_of(engine) == "drift" else (i - k) % many), rows)

    def test_looks_and_colours_do_not_matter(self):
        for one, other in zip(sample_engines(), sample_engines()[::-1]):
            x, y, way, look, rails = one
            dressed = (x, y, way, -look, tuple((shape, 9 - colour) for shape, colour in rails))
            self.assertEqual(pairs_of_roads(dressed, other), pairs_of_roads(one, other))
            self.assertEqual(pairs_of_roads(other, dressed), pairs_of_roads(other, one))


class Long(unittest.TestCase):
    """Engines of up to 12 rails, held against places alone."""

    def test_near_places(self):
        chance = Random(82)
        for again in range(60):
            one, other = random_engine(chance, 3), random_engine(chance, 3)
            found = AgainstAWalk()
            many, many_of_other = round_of(one), round_of(other)
            rows = {(i % many, j % many_of_other): (i, j, steps) for i, j, steps in pairs_of_roads(one, other)}
            road, road_of_other = walked(one, -50, 50), walked(other, -50, 50)
            for i, j in product(range(-50, 51), repeat=2):
                row = rows.get((i % many, j % many_of_other))
                self.assertEqual(row is not None and found.is_in(row, i, j), road[i][0] == road_of_other[j][0])
            for row in rows.values():
                for i, j in all_of_row(row, (0, 7, -10 ** 6)):
                    self.assertEqual(place_of(one, i)[0], place_of(other, j)[0])


class Kept(unittest.TestCase):
    def test_what_was_handed_in_is_as_it_was(self):
        for one, other in zip(sample_engines(), sample_engines()[1:]):
            copied = copy.deepcopy((one, other))
            told = pairs_of_roads(one, other)
            pairs_of_roads(WHEEL, NORTH)
            self.assertEqual((one, other), copied)
            self.assertEqual(pairs_of_roads(one, other), told)

    def test_tuples_are_told(self):
        for one, other in product((WHEEL, NORTH, engine_of(0, 9, 2, 1, "s")), repeat=2):
            told = pairs_of_roads(one, other)
            self.assertIs(type(told), tuple)
            for row in told:
                self.assertEqual([type(part) for part in (row, *row)], [tuple, int, int, tuple])
                self.assertEqual({type(step) for step in row[2]} - {tuple}, set())

    def test_names_of_the_arguments(self):
        self.assertEqual(str(inspect.signature(common.pairs_of_roads)), "(one, other)")
        self.assertEqual(pairs_of_roads(other=WHEEL, one=NORTH), pairs_of_roads(NORTH, WHEEL))


if __name__ == "__main__":
    unittest.main()
