"""Points [25] and [26]: a ground over many deeds; and what point [3] says of it."""

import copy
import inspect
import unittest
from random import Random

from ownrail import ground as ground_module
from ownrail.beats import back_by, beats
from ownrail.engines import painted, turned_by_hand
from ownrail.errors import Broken, Full, NoColour, NoEngine, NoNumber, NoRail, NoStood, NoYard
from ownrail.ground import HISTORY, Ground
from ownrail.yards import look_yard
from samples import ANY_THINGS, FAR, NOT_WHOLE, nested
from yard_samples import COLUMN, WHEEL, engine_of, lies_once, random_engine, random_yard, sample_yards

FULL_YARD = tuple(engine_of(10 * at, 0, 0, 1, "ss", at) for at in range(8))
# Engines 0 and 1 meet in beat 5.
FACING = (engine_of(0, 0, 0, 1, "s", 1), engine_of(0, 9, 2, 1, "s", 2))
NOT_THERE = (-1, -2, -10 ** 30, 8, 9, 10 ** 30)


def undone(yard, row):
    """The yard ahead of a deed, from the yard behind it and its row in the log alone."""
    word = row[0]
    if word == "go":
        return back_by(yard, row[1])
    if word == "down":
        assert yard[row[2]] == row[1] and row[2] == len(yard) - 1
        return yard[:-1]
    if word == "away":
        return yard[:row[1]] + (row[2],) + yard[row[1]:]
    engines = list(yard)
    if word == "turn":
        engines[row[1]] = turned_by_hand(engines[row[1]])
    elif word == "paint":
        assert engines[row[1]][4][row[2]][1] == row[4]
        engines[row[1]] = painted(engines[row[1]], row[2], row[3])
    else:
        engines[row[1]], engines[row[2]] = engines[row[2]], engines[row[1]]
    return tuple(engines)


def state(ground):
    return (ground.standing(), ground.beats_gone(), ground.log(), len(ground), repr(ground), ground.is_open(),
            [ground.stood(k) for k in range(len(ground) + 1)])


def random_deed(chance, yard):
    """A deed, one of several, that a ground with this yard may do or refuse."""
    number = chance.randint(-1, len(yard))
    return chance.choice((
        ("go", chance.randint(0, 6)), ("down", random_engine(chance, 5, 4)), ("away", number), ("turn", number),
        ("paint", number, chance.randint(-1, 4), chance.randint(-1, 10)), ("swap", number, chance.randint(-1, len(yard)))))


def call(ground, deed):
    """The deed done by its own method."""
    return getattr(ground, deed[0])(*deed[1:])


REFUSALS = (NoYard, NoEngine, NoNumber, NoRail, NoColour, Full)


class Case(unittest.TestCase):
    def refused(self, error, fields, ground, ask):
        """Refused with these fields, and the ground stands as it stood."""
        before = state(ground)
        with self.assertRaises(error) as caught:
            ask()
        self.assertIs(type(caught.exception), error)
        for name, worth in fields.items():
            self.assertEqual(getattr(caught.exception, name), worth)
            self.assertIs(type(getattr(caught.exception, name)), type(worth))
        self.assertEqual(state(ground), before)
        self.assertIs(ground.is_open(), True)


class Made(Case):
    def test_of_nothing(self):
        ground = Ground()
        self.assertEqual(state(ground), ((), 0, [], 0, "Ground(0, 0)", True, [()]))

    def test_of_yards(self):
        for yard in sample_yards(201, each=1):
            ground = Ground(yard)
            self.assertEqual(state(ground), (yard, 0, [], 0, f"Ground({len(yard)}, 0)", True, [yard]))

    def test_of_any_thing(self):
        for thing in ANY_THINGS + ((WHEEL, WHEEL), (WHEEL, 5), FULL_YARD + FULL_YARD, (engine_of(FAR + 1, 0, 0, 1, "s"),)):
            try:
                look_yard(thing)
            except NoYard as error:
                with self.assertRaises(NoYard) as caught:
                    Ground(thing)
                self.assertEqual((caught.exception.word, caught.exception.number), (error.word, error.number))
            else:
                self.assertEqual(Ground(thing).standing(), thing)

    def test_refused_words(self):
        for thing, word, number in (
                (None, "form", 0), (5, "form", 0), (FULL_YARD + (WHEEL,), "many", 8), ((WHEEL, WHEEL), "met", 1),
                ((WHEEL, (0, 0, 4, 1, (("s", 0),))), "way", 1), (((0, 0, 0, 0, (("s", 0),)),), "look", 0)):
            with self.assertRaises(NoYard) as caught:
                Ground(thing)
            self.assertEqual((caught.exception.word, caught.exception.number), (word, number))


class Go(Case):
    def test_it_goes(self):
        for yard in sample_yards(202, each=1):
            ground = Ground(yard)
            self.assertIsNone(ground.go(7))
            self.assertEqual(ground.standing(), beats(yard, 7)[0])
            self.assertEqual((ground.beats_gone(), ground.log(), len(ground)), (7, [("go", 7)], 1))
            self.assertIsNone(ground.go(3))
            self.assertEqual(ground.standing(), beats(yard, 10)[0])
            self.assertEqual((ground.beats_gone(), ground.log()), (10, [("go", 7), ("go", 3)]))

    def test_none_is_a_deed_like_others(self):
        ground = Ground(COLUMN)
        self.assertIsNone(ground.go(0))
        self.assertEqual((ground.standing(), ground.log(), len(ground), ground.beats_gone()), (COLUMN, [("go", 0)], 1, 0))
        self.assertIs(ground.back(), True)
        self.assertEqual(len(ground), 0)

    def test_just_the_most_and_one_more(self):
        for most in (1, 2, 10, 300):
            ground = Ground(COLUMN, most=most)
            self.refused(Full, {"most": most}, ground, lambda: ground.go(most + 1))
            ground.go(most)
            self.assertEqual(ground.beats_gone(), most)
            self.refused(Full, {"most": most}, ground, lambda: ground.go(1))
            self.refused(Full, {"most": most}, ground, lambda: ground.go(10 ** 12))
            ground.go(0)
            self.assertEqual(ground.beats_gone(), most)

    def test_by_parts(self):
        ground = Ground(COLUMN, most=10)
        for many in (4, 0, 5):
            ground.go(many)
        self.refused(Full, {"most": 10}, ground, lambda: ground.go(2))
        ground.go(1)
        self.refused(Full, {"most": 10}, ground, lambda: ground.go(1))

    def test_as_much_again_when_led_back(self):
        ground = Ground(COLUMN, most=10)
        for again in range(5):
            ground.go(6)
            ground.go(4)
            self.refused(Full, {"most": 10}, ground, lambda: ground.go(1))
            ground.back()
            self.assertEqual(ground.beats_gone(), 6)
            self.refused(Full, {"most": 10}, ground, lambda: ground.go(5))
            ground.go(4)
            ground.back()
            ground.back()
            self.assertEqual((ground.beats_gone(), ground.standing()), (0, COLUMN))

    def test_most_left_out(self):
        self.assertEqual((HISTORY, type(HISTORY)), (5000, int))
        ground = Ground((WHEEL,))
        self.refused(Full, {"most": 5000}, ground, lambda: ground.go(5001))
        ground.go(5000)
        self.refused(Full, {"most": 5000}, ground, lambda: ground.go(1))

    def test_no_engines(self):
        ground = Ground(most=3)
        ground.go(3)
        self.assertEqual((ground.standing(), ground.beats_gone()), ((), 3))
        self.refused(Full, {"most": 3}, ground, lambda: ground.go(1))


class Down(Case):
    def test_it_is_the_last_one(self):
        ground = Ground()
        for number, engine in enumerate(FULL_YARD):
            self.assertEqual(ground.down(engine), number)
            self.assertEqual(ground.standing(), FULL_YARD[:number + 1])
            self.assertEqual(ground.log()[-1], ("down", engine, number))

    def test_any_thing(self):
        for thing in ANY_THINGS:
            for yard in ((), (WHEEL,), FULL_YARD):
                ground = Ground(yard)
                # Ahead of the yard being full.
                self.refused(NoEngine, {"word": "form"}, ground, lambda: ground.down(thing))

    def test_each_word(self):
        for thing, word in (
                ((0, 0, 0, 1, ()), "form"), ((True, 0, 0, 1, (("s", 0),)), "form"), ((FAR + 1, 0, 0, 1, (("s", 0),)), "far"),
                ((0, 0, 4, 1, (("s", 0),)), "way"), ((0, 0, 0, 2, (("s", 0),)), "look"), ((0, 0, 0, 1, (("x", 0),)), "shape"),
                ((0, 0, 0, 1, (("s", 10),)), "colour"), (engine_of(0, 0, 0, 1, "rrrrr"), "twice"),
                ([0, 0, 0, 1, (("s", 0),)], "form")):
            for yard in ((), FULL_YARD):
                ground = Ground(yard)
                self.refused(NoEngine, {"word": word}, ground, lambda: ground.down(thing))

    def test_too_many_ahead_of_met(self):
        ground = Ground(FULL_YARD)
        for engine in (engine_of(0, 50, 0, 1, "s"), FULL_YARD[3]):
            self.refused(NoYard, {"word": "many", "number": 8}, ground, lambda: ground.down(engine))

    def test_met(self):
        for many in range(1, 8):
            ground = Ground(FULL_YARD[:many])
            for at in range(many):
                # On its last rail, and on its first one by the one's own first rail.
                for engine in (engine_of(10 * at, 0, 1, 1, "s"), engine_of(10 * at - 1, 1, 1, 1, "ss")):
                    self.refused(NoYard, {"word": "met", "number": many}, ground, lambda: ground.down(engine))

    def test_those_that_stand_may_be_beyond_the_bound(self):
        ground = Ground((engine_of(FAR, FAR, 1, 1, "s"),))
        ground.go(10)
        self.assertEqual(ground.standing()[0][0], FAR + 10)
        self.assertEqual(ground.down(engine_of(FAR, FAR, 1, 1, "s")), 1)
        self.assertEqual(ground.down(WHEEL), 2)
        # The one's first rail is beyond the bound, too, on the other's square.
        engine = engine_of(FAR, FAR - 1, 1, 1, "s" * 11 + "l")
        self.assertEqual(ground.down(engine), 3)


class OtherDeeds(Case):
    def test_away(self):
        for at in range(8):
            ground = Ground(FULL_YARD)
            self.assertEqual(ground.away(at), FULL_YARD[at])
            self.assertEqual(ground.standing(), FULL_YARD[:at] + FULL_YARD[at + 1:])
            self.assertEqual(ground.log(), [("away", at, FULL_YARD[at])])

    def test_turn(self):
        for at in range(8):
            ground = Ground(FULL_YARD)
            self.assertIsNone(ground.turn(at))
            self.assertEqual(ground.standing(), FULL_YARD[:at] + (turned_by_hand(FULL_YARD[at]),) + FULL_YARD[at + 1:])
            self.assertIsNone(ground.turn(at))
            self.assertEqual(ground.standing(), FULL_YARD)
            self.assertEqual(ground.log(), [("turn", at), ("turn", at)])

    def test_paint(self):
        for at in range(8):
            for place in (0, 1):
                for colour in range(10):
                    ground = Ground(FULL_YARD)
                    elder = FULL_YARD[at][4][place][1]
                    self.assertEqual(ground.paint(at, place, colour), elder)
                    engine = painted(FULL_YARD[at], place, colour)
                    self.assertEqual(ground.standing(), FULL_YARD[:at] + (engine,) + FULL_YARD[at + 1:])
                    self.assertEqual(ground.log(), [("paint", at, place, elder, colour)])

    def test_swap(self):
        for one in range(8):
            for other in range(8):
                ground = Ground(FULL_YARD)
                self.assertIsNone(ground.swap(one, other))
                engines = list(FULL_YARD)
                engines[one], engines[other] = FULL_YARD[other], FULL_YARD[one]
                self.assertEqual(ground.standing(), tuple(engines))
                self.assertEqual(ground.log(), [("swap", one, other)])

    def test_numbers_decide_whose_turn_is_first(self):
        one, other = engine_of(0, 0, 0, 1, "s", 1), engine_of(0, 1, 1, 1, "s", 2)
        ground = Ground((one, other))
        ground.swap(0, 1)
        ground.go(1)
        self.assertEqual(ground.standing(), beats((other, one), 1)[0])

    def test_numbers_that_are_not_there(self):
        for many in (0, 1, 3, 8):
            ground = Ground(FULL_YARD[:many])
            for number in NOT_THERE + (many, many + 1):
                for ask in (lambda: ground.away(number), lambda: ground.turn(number),
                            lambda: ground.paint(number, 0, 0), lambda: ground.paint(number, 99, "no colour"),
                            lambda: ground.swap(number, number), lambda: ground.swap(number, 10 ** 9)):
                    self.refused(NoNumber, {"number": number}, ground, ask)
                if many > 0:
                    self.refused(NoNumber, {"number": number}, ground, lambda: ground.swap(0, number))
                    self.refused(NoNumber, {"number": number}, ground, lambda: ground.swap(number, 0))

    def test_rails_that_are_not_there(self):
        ground = Ground(FULL_YARD)
        for place in (-1, -2, 2, 12, 10 ** 30, -10 ** 30):
            for colour in (0, 10, None):
                # Ahead of the colour.
                self.refused(NoRail, {"number": 5, "place": place}, ground, lambda: ground.paint(5, place, colour))

    def test_things_that_are_no_colours(self):
        ground = Ground(FULL_YARD)
        for thing in NOT_WHOLE + (-1, 10, 10 ** 30, nested(12)):
            self.refused(NoColour, {"colour": thing}, ground, lambda: ground.paint(5, 1, thing))


class Told(Case):
    def test_the_log_row_by_row(self):
        ground = Ground(FACING)
        engine = engine_of(50, 50, 0, 1, "lr", 4)
        for deed, row in (
                (("go", 3), ("go", 3)), (("down", engine), ("down", engine, 2)), (("swap", 0, 2), ("swap", 0, 2)),
                (("paint", 0, 1, 9), ("paint", 0, 1, 5, 9)), (("turn", 1), ("turn", 1)), (("go", 0), ("go", 0)),
                (("away", 0), ("away", 0, painted(engine, 1, 9)))):
            call(ground, deed)
            self.assertEqual(ground.log()[-1], row)
        self.assertEqual(len(ground), 7)
        self.assertEqual(ground.beats_gone(), 3)

    def test_each_log_and_list_is_a_new_one(self):
        ground = Ground(FACING)
        ground.go(2)
        told = ground.log()
        self.assertIsNot(ground.log(), told)
        told.append("mine")
        told[0] = "mine"
        self.assertEqual(ground.log(), [("go", 2)])
        self.assertEqual({type(row) for row in ground.log()}, {tuple})

    def test_what_stood(self):
        chance = Random(203)
        for yard in sample_yards(204, each=1):
            ground, yards = Ground(yard), [yard]
            for again in range(12):
                try:
                    call(ground, random_deed(chance, ground.standing()))
                except REFUSALS:
                    continue
                yards.append(ground.standing())
            self.assertEqual([ground.stood(k) for k in range(len(ground) + 1)], yards)
            for k in (-1, -2, len(ground) + 1, len(ground) + 2, 10 ** 30, -10 ** 30):
                self.refused(NoStood, {"k": k}, ground, lambda: ground.stood(k))

    def test_none_stood_but_the_yard(self):
        ground = Ground(COLUMN)
        self.assertEqual(ground.stood(0), COLUMN)
        self.refused(NoStood, {"k": 1}, ground, lambda: ground.stood(1))
        self.refused(NoStood, {"k": -1}, ground, lambda: ground.stood(-1))

    def test_each_yard_ahead_from_the_last_one_and_the_log(self):
        chance = Random(205)
        words = set()
        for yard in sample_yards(206, each=2):
            ground = Ground(yard)
            for again in range(15):
                try:
                    call(ground, random_deed(chance, ground.standing()))
                except REFUSALS:
                    pass
            now = ground.standing()
            for k in range(len(ground) - 1, -1, -1):
                row = ground.log()[k]
                now = undone(now, row)
                self.assertEqual(now, ground.stood(k), row)
                words.add(row[0])
            self.assertEqual(now, yard)
        self.assertEqual(words, {"go", "down", "away", "turn", "paint", "swap"})


class Back(Case):
    def test_nothing_stands(self):
        for yard in ((), COLUMN):
            ground = Ground(yard)
            before = state(ground)
            self.assertIs(ground.back(), False)
            self.assertIs(ground.back(), False)
            self.assertEqual(state(ground), before)

    def test_each_deed(self):
        for deed in (("go", 4), ("go", 0), ("down", engine_of(50, 50, 0, 1, "s")), ("away", 0), ("turn", 1), ("paint", 1, 0, 7),
                     ("swap", 0, 1), ("swap", 1, 1)):
            ground = Ground(FACING)
            before = state(ground)
            call(ground, deed)
            self.assertEqual(len(ground), 1)
            self.assertIs(ground.back(), True)
            self.assertEqual(state(ground), before)

    def test_many_deeds(self):
        chance = Random(207)
        for yard in sample_yards(208, each=1):
            ground, states = Ground(yard, most=30), []
            for again in range(25):
                states.append(state(ground))
                try:
                    call(ground, random_deed(chance, ground.standing()))
                except REFUSALS:
                    states.pop()
                if chance.random() < 0.2 and states:
                    self.assertIs(ground.back(), True)
                    self.assertEqual(state(ground), states.pop())
            while states:
                self.assertIs(ground.back(), True)
                self.assertEqual(state(ground), states.pop())
            self.assertIs(ground.back(), False)

    def test_all_is_as_it_was_for_what_comes_later(self):
        ground = Ground(FACING, most=20)
        ground.go(9)
        ground.back()
        ground.go(12)
        self.assertEqual(ground.standing(), beats(FACING, 12)[0])


ENGINE = engine_of(50, 50, 0, 1, "lr", 4)
SEVERAL = (("go", 3), ("down", ENGINE), ("turn", 2), ("paint", 2, 1, 0), ("swap", 0, 2), ("away", 1), ("go", 2))
SEVERAL_TOLD = [None, 2, None, 5, None, beats(FACING, 3)[0][1], None]
# Each one of them is no deed, or is refused on whatever ground of few engines.
BROKEN = (
    None, True, 5, "go", (), ("go",), ("go", 1, 2), ("go", -1), ("go", True), ("go", None), ("go", "1"), ("go", (1,)), ["go", 1],
    ("Go", 1), (("go",), 1), (None, 1), (1, 1), ("down",), ("down", ENGINE, 1), ("down", None), ("down", 5), ("down", (0, 0)),
    ("down", engine_of(0, 0, 9, 1, "s")), ("away",), ("away", 0, 0), ("away", None), ("away", False), ("away", "0"), ("away", 99),
    ("away", -1), ("turn",), ("turn", 0, 1), ("turn", True), ("turn", 99), ("turn", -1), ("paint", 0, 0), ("paint", 0, 0, 0, 0),
    ("paint", True, 0, 0), ("paint", 0, False, 0), ("paint", 0, None, 0), ("paint", 99, 0, 0), ("paint", 0, 99, 0),
    ("paint", 0, -1, 0), ("paint", -1, 0, 0), ("paint", 0, 0, 10), ("paint", 0, 0, -1), ("paint", 0, 0, True), ("paint", 0, 0, None),
    ("paint", 0, 0, nested(11)), ("swap", 0), ("swap", 0, 0, 0), ("swap", 0, True), ("swap", None, 0), ("swap", 99, 0),
    ("swap", 0, 99), ("swap", -1, 0), ("swap", 0, -1), ("back",), ("stood", 0), ("several", ()), ("log",), ("keep", 0, ()),
    ("go", 5001), ("go", 10 ** 30), nested(12), (nested(11), 0), ("", 0),
)


class Several(Case):
    def test_all_of_them(self):
        for kind in (list, tuple):
            ground, one_by_one = Ground(FACING), Ground(FACING)
            told = ground.several(kind(SEVERAL))
            self.assertIs(type(told), list)
            self.assertEqual(told, SEVERAL_TOLD)
            self.assertEqual(told, [call(one_by_one, deed) for deed in SEVERAL])
            self.assertEqual(state(ground), state(one_by_one))

    def test_none(self):
        for deeds in ((), []):
            ground = Ground(FACING)
            before = state(ground)
            self.assertEqual(ground.several(deeds), [])
            self.assertEqual(ground.several(deeds, whole=False), [])
            self.assertEqual(state(ground), before)

    def test_for_back_each_is_one(self):
        ground = Ground(FACING)
        states = []
        for deed in SEVERAL:
            states.append(state(ground))
            ground.several([deed])
        at_once = Ground(FACING)
        at_once.several(SEVERAL)
        self.assertEqual(len(at_once), 7)
        for before in states[::-1]:
            self.assertIs(at_once.back(), True)
            self.assertEqual(state(at_once), before)

    def test_each_broken_one_at_each_place(self):
        for bad in BROKEN:
            for at in (0, 1, 4, 7):
                deeds = SEVERAL[:at] + (bad,) + SEVERAL[at:]
                for kind in (list, tuple):
                    ground = Ground(FACING)
                    ground.turn(0)
                    self.refused(Broken, {"at": at}, ground, lambda: ground.several(kind(deeds)))
                    self.refused(Broken, {"at": at}, ground, lambda: ground.several(kind(deeds), whole=True))

    def test_those_ahead_stand_if_told_so(self):
        for bad in BROKEN:
            for at in (0, 1, 4, 7):
                deeds = SEVERAL[:at] + (bad,) + SEVERAL[at:]
                ground, ahead = Ground(FACING), Ground(FACING)
                ahead.several(SEVERAL[:at])
                with self.assertRaises(Broken) as caught:
                    ground.several(deeds, whole=False)
                self.assertEqual(caught.exception.at, at)
                self.assertEqual(state(ground), state(ahead))
                self.assertEqual(len(ground), at)

    def test_refused_in_turn(self):
        # Each is refused for what those ahead made of the yard.
        for deeds, at in (
                ((("away", 1), ("turn", 1)), 1), ((("away", 0), ("away", 0), ("away", 0)), 2),
                ((("down", ENGINE), ("down", ENGINE)), 1), ((("go", 4000), ("go", 1000), ("go", 1)), 2),
                (tuple(("down", engine_of(20 + 5 * k, 0, 0, 1, "s")) for k in range(9)), 6),
                ((("swap", 0, 1), ("swap", 0, 2)), 1)):
            ground = Ground(FACING)
            self.refused(Broken, {"at": at}, ground, lambda: ground.several(deeds))
            with self.assertRaises(Broken):
                ground.several(deeds, whole=False)
            self.assertEqual(len(ground), at)

    def test_full(self):
        ground = Ground(FACING, most=10)
        self.refused(Broken, {"at": 2}, ground, lambda: ground.several([("go", 6), ("go", 4), ("go", 1)]))
        # What was taken back doesn't count.
        self.assertEqual(ground.several([("go", 6), ("go", 4), ("go", 0)]), [None, None, None])

    def test_twenty_at_once(self):
        ground = Ground(FACING)
        self.assertEqual(ground.several([("turn", 0)] * 20), [None] * 20)
        self.assertEqual(len(ground), 20)

    def test_against_one_by_one(self):
        chance = Random(209)
        broken = 0
        for yard in sample_yards(210, each=2):
            deeds = [random_deed(chance, yard) for again in range(6)]
            alone, told, bad = Ground(yard), [], None
            for at, deed in enumerate(deeds):
                try:
                    told.append(call(alone, deed))
                except REFUSALS:
                    bad = at
                    break
            ground, staying = Ground(yard), Ground(yard)
            if bad is None:
                self.assertEqual(ground.several(deeds), told)
                self.assertEqual(state(ground), state(alone))
            else:
                broken += 1
                self.refused(Broken, {"at": bad}, ground, lambda: ground.several(deeds))
                with self.assertRaises(Broken):
                    staying.several(deeds, whole=False)
                self.assertEqual(state(staying), state(alone))
        self.assertGreater(broken, 10)

    def test_it_is_not_open_while_they_are_under_way(self):
        ground, told = Ground(FACING), []

        class Deeds(list):
            def __iter__(self):
                for deed in SEVERAL[:2] + (None,):
                    told.append(ground.is_open())
                    yield deed

        with self.assertRaises(Broken):
            ground.several(Deeds())
        self.assertEqual(told, [False, False, False])
        self.assertIs(ground.is_open(), True)

    def test_deeds_handed_in_are_as_they_were(self):
        ground = Ground(FACING)
        deeds = list(SEVERAL)
        ground.several(deeds)
        self.assertEqual(deeds, list(SEVERAL))
        before = state(ground)
        deeds.append(("go", 1))
        deeds[0] = None
        self.assertEqual(state(ground), before)


class Compared(Case):
    def test_equal_where_their_yards_are(self):
        one, other = Ground(FACING), Ground(FACING, most=7)
        self.assertTrue(one == other)
        self.assertFalse(one != other)
        one.go(0)
        one.turn(0)
        one.turn(0)
        # Whatever their logs.
        self.assertTrue(one == other and other == one)
        one.turn(0)
        self.assertFalse(one == other)
        self.assertTrue(one != other)

    def test_led_back_it_is_equal_again(self):
        for yard in sample_yards(211, each=1):
            one, other = Ground(yard), Ground(yard)
            one.go(5)
            self.assertEqual(one == other, beats(yard, 5)[0] == yard)
            one.back()
            self.assertTrue(one == other)

    def test_a_colour_a_number_a_look(self):
        one = Ground(FACING)
        for deed in (("paint", 0, 0, 9), ("swap", 0, 1), ("turn", 1), ("away", 1)):
            other = Ground(FACING)
            call(other, deed)
            self.assertTrue(one != other)

    def test_to_anything_else_none_is(self):
        ground = Ground()
        for thing in ANY_THINGS + (FACING, [], {}, object(), Ground):
            self.assertIs(ground == thing, False)
            self.assertIs(ground != thing, True)
            self.assertIs(thing == ground, False)
        self.assertFalse(Ground(FACING) == FACING)

    def test_repr(self):
        ground = Ground(FACING)
        self.assertEqual(repr(ground), "Ground(2, 0)")
        ground.go(12)
        ground.down(ENGINE)
        self.assertEqual(repr(ground), "Ground(3, 12)")
        self.assertEqual(str(ground), "Ground(3, 12)")
        ground.back()
        ground.back()
        self.assertEqual(repr(ground), "Ground(2, 0)")
        ground.away(0)
        self.assertEqual(repr(ground), "Ground(1, 0)")

    def test_len(self):
        ground = Ground(FACING)
        for many in range(1, 6):
            ground.turn(0)
            self.assertEqual(len(ground), many)
        for many in range(4, -1, -1):
            ground.back()
            self.assertEqual(len(ground), many)
        ground.back()
        self.assertEqual(len(ground), 0)


class Kept(Case):
    def test_grounds_share_nothing(self):
        one, other = Ground(FACING), Ground(FACING)
        one.several(SEVERAL)
        self.assertEqual(state(other), state(Ground(FACING)))
        self.assertEqual(state(Ground()), state(Ground(())))

    def test_yards_handed_in_are_as_they_were(self):
        for yard in sample_yards(212, each=1):
            copied = copy.deepcopy(yard)
            ground = Ground(yard)
            ground.go(9)
            if yard:
                ground.paint(0, 0, 5)
                ground.away(0)
            self.assertEqual(yard, copied)
            self.assertTrue(lies_once(ground.standing()))

    def test_asked_again_the_same(self):
        ground = Ground(random_yard(Random(213), 4))
        ground.several([("go", 3), ("turn", 1)])
        self.assertEqual(state(ground), state(ground))

    def test_names_of_the_arguments(self):
        told = {"__init__": "(self, yard=(), *, most=5000)", "go": "(self, many)", "down": "(self, engine)",
                "away": "(self, number)", "turn": "(self, number)", "paint": "(self, number, place, colour)",
                "swap": "(self, one, other)", "back": "(self)", "several": "(self, deeds, *, whole=True)",
                "standing": "(self)", "beats_gone": "(self)", "log": "(self)", "stood": "(self, k)", "is_open": "(self)",
                "__len__": "(self)", "__eq__": "(self, other)", "__repr__": "(self)"}
        for name, arguments in told.items():
            self.assertIn(name, vars(Ground))
            self.assertEqual(str(inspect.signature(getattr(ground_module.Ground, name))), arguments)
        ground = Ground(most=30, yard=FACING)
        ground.go(many=3)
        self.assertEqual(ground.down(engine=ENGINE), 2)
        self.assertEqual(ground.paint(colour=7, place=1, number=2), 5)
        ground.swap(other=2, one=0)
        ground.turn(number=0)
        self.assertEqual(ground.away(number=0), turned_by_hand(painted(ENGINE, 1, 7)))
        self.assertEqual(ground.stood(k=0), FACING)
        self.assertEqual(ground.several(whole=False, deeds=[("turn", 0)]), [None])
        with self.assertRaises(TypeError):
            ground.several([], False)
        with self.assertRaises(TypeError):
            Ground(FACING, 30)


if __name__ == "__main__":
    unittest.main()
