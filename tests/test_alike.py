"""Points [22] and [23]: yards led on, turned, mirrored; which are alike; codes; what is seen; and [3] of it."""

import copy
import inspect
import unittest
from itertools import product

from ownrail import alike
from ownrail.alike import code_of, leading_from, led_yard, seen_of
from ownrail.beats import beat, beats
from ownrail.yards import look_yard
from samples import FAR, HEADINGS
from yard_samples import COLUMN, WHEEL, engine_of, lies_once, sample_yards, slow_squares

POSES = tuple(product(range(4), (False, True)))
# North to east is a quarter to the right: -1j for complex numbers.
RIGHT = -1j


def led_point(square, quarters, mirrored, dx, dy):
    x, y = square
    point = complex(-x if mirrored else x, y) * RIGHT ** quarters + complex(dx, dy)
    return (round(point.real), round(point.imag))


def slow_led(yard, quarters, mirrored, dx, dy):
    """The yard led, engine by engine, as point [22] says it."""
    engines = []
    for x, y, way, look, rails in yard:
        heading = HEADINGS[way]
        turned = complex(-heading.real if mirrored else heading.real, heading.imag) * RIGHT ** quarters
        shapes = {"l": "r", "r": "l", "s": "s"} if mirrored else {"l": "l", "r": "r", "s": "s"}
        x, y = led_point((x, y), quarters, mirrored, dx, dy)
        way = [HEADINGS.index(there) for there in HEADINGS if abs(there - turned) < 0.5][0]
        engines.append((x, y, way, look, tuple((shapes[shape], colour) for shape, colour in rails)))
    return tuple(engines)


def slow_code(yard):
    if not yard:
        return ()
    all_of_it = []
    for quarters, mirrored in POSES:
        x, y = led_point(yard[0][:2], quarters, mirrored, 0, 0)
        all_of_it.append(slow_led(yard, quarters, mirrored, -x, -y))
    return sorted(all_of_it)[0]


def changed_yards(yard):
    """Yards that are otherwise in one thing: a look, a colour, numbers, a square, an engine."""
    for number, (x, y, way, look, rails) in enumerate(yard):
        yield yard[:number] + ((x, y, way, -look, rails),) + yard[number + 1:]
        yield yard[:number] + yard[number + 1:]
        for place, (shape, colour) in enumerate(rails):
            there = ((shape, (colour + 1) % 10),)
            yield yard[:number] + ((x, y, way, look, rails[:place] + there + rails[place + 1:]),) + yard[number + 1:]
        if len(yard) > 1:
            yield yard[:number] + ((x + 20, y, way, look, rails),) + yard[number + 1:]
        longer = yard[:number] + ((x, y, way, look, rails + (("s", 0),)),) + yard[number + 1:]
        if len(rails) < 12 and lies_once(longer):
            yield longer


class Led(unittest.TestCase):
    def test_by_hand(self):
        engine = engine_of(2, 5, 0, 1, "slr", 3)
        for (quarters, mirrored), (x, y, way) in zip(POSES, (
                (2, 5, 0), (-2, 5, 0), (5, -2, 1), (5, 2, 1), (-2, -5, 2), (2, -5, 2), (-5, 2, 3), (-5, -2, 3))):
            shapes = "srl" if mirrored else "slr"
            self.assertEqual(
                led_yard((engine,), quarters=quarters, mirrored=mirrored), (engine_of(x, y, way, 1, shapes, 3),))
            self.assertEqual(
                led_yard((engine,), quarters=quarters, mirrored=mirrored, dx=-7, dy=100),
                (engine_of(x - 7, y + 100, way, 1, shapes, 3),))

    def test_east_and_west_mirrored(self):
        for way, other in ((0, 0), (1, 3), (2, 2), (3, 1)):
            self.assertEqual(led_yard((engine_of(1, 0, way, -1, "s"),), mirrored=True), (engine_of(-1, 0, other, -1, "s"),))

    def test_no_engines(self):
        self.assertEqual(led_yard((), quarters=3, mirrored=True, dx=5, dy=6), ())

    def test_squares_ways_and_shapes_one_by_one(self):
        for yard in sample_yards(141, each=1):
            for quarters, mirrored in POSES:
                for dx, dy in ((0, 0), (3, -8), (FAR, -FAR), (-FAR, FAR)):
                    told = led_yard(yard, quarters=quarters, mirrored=mirrored, dx=dx, dy=dy)
                    self.assertEqual(told, slow_led(yard, quarters, mirrored, dx, dy))
                    for engine, other in zip(yard, told):
                        led = [led_point(square, quarters, mirrored, dx, dy) for square in slow_squares(engine)]
                        self.assertEqual(slow_squares(other), led)

    def test_looks_and_colours_stay(self):
        for yard in sample_yards(142, each=1):
            for quarters, mirrored in POSES:
                told = led_yard(yard, quarters=quarters, mirrored=mirrored, dx=1, dy=2)
                self.assertEqual([engine[3] for engine in told], [engine[3] for engine in yard])
                self.assertEqual([[colour for shape, colour in engine[4]] for engine in told],
                                 [[colour for shape, colour in engine[4]] for engine in yard])
                self.assertIs(look_yard(told), True)

    def test_what_is_left_out(self):
        for yard in sample_yards(143, each=1):
            self.assertEqual(led_yard(yard), yard)
            self.assertEqual(led_yard(yard, dx=4), led_yard(yard, quarters=0, mirrored=False, dx=4, dy=0))
            self.assertEqual(led_yard(yard, dy=4), slow_led(yard, 0, False, 0, 4))
            self.assertEqual(led_yard(yard, quarters=3), slow_led(yard, 3, False, 0, 0))
            self.assertEqual(led_yard(yard, mirrored=True), slow_led(yard, 0, True, 0, 0))

    def test_led_back_it_is_itself(self):
        for yard in sample_yards(144, each=1):
            for quarters, mirrored in POSES:
                there = led_yard(yard, quarters=quarters, mirrored=mirrored, dx=9, dy=-FAR)
                back = led_yard(there, dx=-9, dy=FAR)
                # Mirrored, a quarter to the right is undone by one more to the right.
                self.assertEqual(led_yard(back, quarters=quarters if mirrored else -quarters % 4, mirrored=mirrored), yard)

    def test_four_quarters_and_two_mirrors(self):
        for yard in sample_yards(145, each=1):
            now = yard
            for quarter in range(4):
                now = led_yard(now, quarters=1)
            self.assertEqual(now, yard)
            self.assertEqual(led_yard(led_yard(yard, mirrored=True), mirrored=True), yard)
            self.assertEqual(led_yard(led_yard(yard, quarters=1), quarters=2), led_yard(yard, quarters=3))


class Leading(unittest.TestCase):
    def check_leads(self, one, other):
        row = leading_from(one, other)
        self.assertIs(type(row), tuple)
        quarters, mirrored, dx, dy = row
        self.assertEqual([type(part) for part in row], [int, bool, int, int])
        self.assertIn(quarters, range(4))
        self.assertEqual(slow_led(one, quarters, mirrored, dx, dy), other)

    def test_alike(self):
        for yard in sample_yards(146, each=2):
            for quarters, mirrored in POSES:
                for dx, dy in ((0, 0), (-3, 8), (FAR, -FAR)):
                    other = slow_led(yard, quarters, mirrored, dx, dy)
                    self.check_leads(yard, other)
                    self.check_leads(other, yard)

    def test_no_engines(self):
        self.check_leads((), ())
        self.assertIsNone(leading_from((), (WHEEL,)))
        self.assertIsNone(leading_from((WHEEL,), ()))

    def test_their_own_mirrors(self):
        straight = (engine_of(0, 0, 0, 1, "ss"),)
        for quarters, mirrored in POSES:
            self.check_leads(straight, slow_led(straight, quarters, mirrored, 5, 5))
        both = (engine_of(0, 0, 0, 1, "sss", 4), engine_of(0, 9, 2, -1, "ss", 4))
        for quarters, mirrored in POSES:
            self.check_leads(both, slow_led(both, quarters, mirrored, -5, 5))
            self.check_leads(slow_led(both, quarters, mirrored, -5, 5), both)

    def test_unlike(self):
        unlike = 0
        for yard in sample_yards(147, each=1):
            for other in changed_yards(yard):
                told = leading_from(yard, other)
                if slow_code(yard) == slow_code(other):
                    self.check_leads(yard, other)
                else:
                    unlike += 1
                    self.assertIsNone(told)
                    self.assertIsNone(leading_from(other, led_yard(yard, quarters=1, dx=5)))
        self.assertGreater(unlike, 500)

    def test_numbers_exchanged_are_unlike(self):
        yard = (engine_of(0, 0, 0, 1, "s", 1), engine_of(9, 9, 0, 1, "s", 2))
        self.assertIsNone(leading_from(yard, yard[::-1]))
        # But for two that are alike themselves.
        yard = (engine_of(0, 0, 0, 1, "s", 1), engine_of(9, 9, 2, 1, "s", 1))
        self.check_leads(yard, yard[::-1])


class Code(unittest.TestCase):
    def test_by_hand(self):
        self.assertEqual(code_of(()), ())
        self.assertEqual(code_of((engine_of(4, 7, 2, -1, "ssr", 5),)), (engine_of(0, 0, 0, -1, "ssl", 5),))
        self.assertEqual(code_of((engine_of(4, 7, 2, 1, "r"),)), (engine_of(0, 0, 0, 1, "l"),))
        self.assertEqual(
            code_of((engine_of(4, 7, 1, 1, "s"), engine_of(4, 9, 1, 1, "s"))),
            (engine_of(0, 0, 0, 1, "s"), engine_of(-2, 0, 0, 1, "s")))

    def test_the_least_of_all(self):
        for yard in sample_yards(148, each=2):
            self.assertEqual(code_of(yard), slow_code(yard))

    def test_engine_0_lies_on_the_middle(self):
        for yard in sample_yards(149, each=1):
            code = code_of(yard)
            self.assertEqual(code[0][:2] if code else (0, 0), (0, 0))
            self.assertIsNotNone(leading_from(yard, code))
            self.assertEqual(code_of(code), code)

    def test_one_code_of_alike_ones(self):
        for yard in sample_yards(150, each=1):
            for quarters, mirrored in POSES:
                other = led_yard(yard, quarters=quarters, mirrored=mirrored, dx=-FAR, dy=77)
                self.assertEqual(code_of(other), code_of(yard))

    def test_unlike_codes_of_unlike_ones(self):
        for yard in sample_yards(151, each=1):
            for other in changed_yards(yard):
                self.assertEqual(code_of(yard) == code_of(other), leading_from(yard, other) is not None)

    def test_alike_by_places_alone(self):
        # Of these the lengths of the rails decide first where one tuple is the begin of the other.
        one, other = (engine_of(0, 0, 0, 1, "s"),), (engine_of(0, 0, 0, 1, "ss"),)
        self.assertNotEqual(code_of(one), code_of(other))
        self.assertIsNone(leading_from(one, other))


class Beats(unittest.TestCase):
    def test_alike_ones_stay_alike(self):
        for yard in sample_yards(152, each=1):
            for (quarters, mirrored), (dx, dy) in product(POSES, ((0, 0), (11, -FAR))):
                named = {"quarters": quarters, "mirrored": mirrored, "dx": dx, "dy": dy}
                there = led_yard(yard, **named)
                self.assertEqual(beat(there)[0], led_yard(beat(yard)[0], **named))
                self.assertEqual(beats(there, 30)[0], led_yard(beats(yard, 30)[0], **named))

    def test_meetings_go_along(self):
        for yard in sample_yards(153, each=1):
            for quarters, mirrored in POSES:
                there = led_yard(yard, quarters=quarters, mirrored=mirrored, dx=3, dy=4)
                led = tuple((gone, number, led_point(square, quarters, mirrored, 3, 4), other, rail)
                            for gone, number, square, other, rail in beats(yard, 20)[1])
                self.assertEqual(beats(there, 20)[1], led)

    def test_one_code_beat_by_beat(self):
        for yard in sample_yards(154, each=1):
            other = led_yard(yard, quarters=3, mirrored=True, dx=-5, dy=8)
            for gone in (1, 2, 10):
                self.assertEqual(code_of(beats(other, gone)[0]), code_of(beats(yard, gone)[0]))


class Seen(unittest.TestCase):
    def test_by_hand(self):
        self.assertEqual(seen_of(()), {})
        yard = (engine_of(4, 0, 3, 1, "ss", 7), engine_of(0, 5, 0, -1, "s", 2), engine_of(0, -5, 1, 1, "l", 0))
        self.assertEqual(list(seen_of(yard).items()), [((0, -5), 0), ((0, 5), 2), ((3, 0), 8), ((4, 0), 7)])

    def test_all_squares_rising(self):
        for yard in sample_yards(155):
            told = seen_of(yard)
            self.assertIs(type(told), dict)
            self.assertEqual(list(told), sorted(told))
            there = {square: colour for engine in yard
                     for square, (shape, colour) in zip(slow_squares(engine), engine[4])}
            self.assertEqual(told, there)

    def test_a_new_dict(self):
        for yard in sample_yards(156, each=1):
            told = seen_of(yard)
            kept = dict(told)
            told[(0, 0)] = "mine"
            self.assertEqual(seen_of(yard), kept)


class Kept(unittest.TestCase):
    def test_what_was_handed_in_is_as_it_was(self):
        for yard in sample_yards(157, each=1):
            copied = copy.deepcopy(yard)
            told = (led_yard(yard, quarters=1, mirrored=True), code_of(yard), leading_from(yard, COLUMN), seen_of(yard))
            code_of(COLUMN), led_yard(COLUMN, dx=9)
            self.assertEqual(yard, copied)
            self.assertEqual(told, (led_yard(yard, quarters=1, mirrored=True), code_of(yard),
                                    leading_from(yard, COLUMN), seen_of(yard)))
            for tuples in told[:2]:
                self.assertEqual({type(part) for part in (tuples, *tuples)}, {tuple})
                self.assertTrue(lies_once(tuples))

    def test_names_of_the_arguments(self):
        told = {"led_yard": "(yard, *, quarters=0, mirrored=False, dx=0, dy=0)", "leading_from": "(one, other)",
                "code_of": "(yard)", "seen_of": "(yard)"}
        for name, arguments in told.items():
            self.assertEqual(str(inspect.signature(getattr(alike, name))), arguments)
        self.assertEqual(led_yard(dy=4, dx=3, mirrored=True, quarters=2, yard=COLUMN), slow_led(COLUMN, 2, True, 3, 4))
        other = led_yard(COLUMN, dx=3)
        self.assertEqual(leading_from(other=other, one=COLUMN), leading_from(COLUMN, other))
        self.assertEqual(code_of(yard=COLUMN), code_of(COLUMN))
        self.assertEqual(seen_of(yard=COLUMN), seen_of(COLUMN))
        with self.assertRaises(TypeError):
            led_yard(COLUMN, 1)


if __name__ == "__main__":
    unittest.main()
