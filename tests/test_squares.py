"""Point [4]: the ways, how shapes turn them, and squares onward."""

import inspect
import unittest

from ownrail.squares import onward, way_behind, way_on
from samples import FAR, SHAPES, WAYS

NORTH, EAST, SOUTH, WEST = WAYS
GONE_ON = {
    (NORTH, "l"): WEST, (NORTH, "s"): NORTH, (NORTH, "r"): EAST,
    (EAST, "l"): NORTH, (EAST, "s"): EAST, (EAST, "r"): SOUTH,
    (SOUTH, "l"): EAST, (SOUTH, "s"): SOUTH, (SOUTH, "r"): WEST,
    (WEST, "l"): SOUTH, (WEST, "s"): WEST, (WEST, "r"): NORTH,
}


class Ways(unittest.TestCase):
    def test_way_on(self):
        for (way, shape), told in GONE_ON.items():
            self.assertEqual(way_on(way, shape), told, (way, shape))

    def test_way_behind(self):
        for (way, shape), on in GONE_ON.items():
            self.assertEqual(way_behind(on, shape), way, (on, shape))

    def test_each_against_the_other(self):
        for way in WAYS:
            for shape in SHAPES:
                self.assertEqual(way_on(way_behind(way, shape), shape), way)
                self.assertEqual(way_behind(way_on(way, shape), shape), way)

    def test_by_name(self):
        self.assertEqual(way_on(shape="l", way=NORTH), WEST)
        self.assertEqual(way_behind(shape="l", way=WEST), NORTH)

    def test_whole_numbers_are_told(self):
        for way, shape in GONE_ON:
            self.assertIs(type(way_on(way, shape)), int)
            self.assertIs(type(way_behind(way, shape)), int)


class Onward(unittest.TestCase):
    def test_one_step_each_way(self):
        self.assertEqual([onward((0, 0), way) for way in WAYS], [(0, 1), (1, 0), (0, -1), (-1, 0)])
        self.assertEqual([onward((5, -3), way) for way in WAYS], [(5, -2), (6, -3), (5, -4), (4, -3)])

    def test_steps(self):
        for x, y in ((0, 0), (1, -1), (-6, 9), (FAR, FAR), (-FAR, FAR), (FAR, -FAR), (-FAR, -FAR)):
            for steps in (0, 1, 2, 7, 123456, FAR - 1, FAR):
                self.assertEqual(onward((x, y), NORTH, steps=steps), (x, y + steps))
                self.assertEqual(onward((x, y), EAST, steps=steps), (x + steps, y))
                self.assertEqual(onward((x, y), SOUTH, steps=steps), (x, y - steps))
                self.assertEqual(onward((x, y), WEST, steps=steps), (x - steps, y))
            for way in WAYS:
                self.assertEqual(onward((x, y), way), onward((x, y), way, steps=1))

    def test_what_was_told_is_handed_on(self):
        square = onward((FAR, 0), EAST, steps=FAR)
        self.assertEqual(onward(square, EAST, steps=FAR), (3 * FAR, 0))

    def test_a_new_tuple_of_whole_numbers(self):
        square = (2, 3)
        told = onward(square, WEST, steps=4)
        self.assertIs(type(told), tuple)
        self.assertEqual([type(part) for part in told], [int, int])
        self.assertEqual(square, (2, 3))

    def test_by_name(self):
        self.assertEqual(onward(steps=3, way=SOUTH, square=(1, 1)), (1, -2))

    def test_steps_goes_by_name_alone(self):
        with self.assertRaises(TypeError):
            onward((0, 0), NORTH, 2)

    def test_signature(self):
        self.assertEqual(str(inspect.signature(onward)), "(square, way, *, steps=1)")
        self.assertEqual(str(inspect.signature(way_on)), "(way, shape)")
        self.assertEqual(str(inspect.signature(way_behind)), "(way, shape)")


if __name__ == "__main__":
    unittest.main()
