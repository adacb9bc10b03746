"""The whole interface, and point [2] over the whole program: names, arguments, kinds of values, nothing changed."""

import copy
import importlib
import inspect
import unittest
from itertools import permutations

from ownrail.desk import Desk
from ownrail.ground import Ground
from yard_samples import COLUMN, WHEEL, engine_of

ENGINE = engine_of(4, -2, 0, 1, "slr", 3)
TWO = (engine_of(0, 0, 0, 1, "s", 1), engine_of(0, 9, 2, 1, "s", 2))
# The one behind the other goes round for ever.
ROUND = (engine_of(-1, 0, 2, 1, "rsssssssr", 4), engine_of(-3, 1, 3, 1, "s", 6))
STORY = [TWO, TWO, TWO]

# Module: {function: (what goes by place or name, what goes by name alone, the kind that is told)}.
FUNCTIONS = {
    "squares": {
        "way_on": ({"way": 3, "shape": "r"}, {}, int),
        "way_behind": ({"way": 3, "shape": "r"}, {}, int),
        "onward": ({"square": (3, 4), "way": 2}, {"steps": 1}, tuple),
    },
    "engines": {
        "look_engine": ({"thing": ENGINE}, {}, bool),
        "squares_of": ({"engine": ENGINE}, {}, tuple),
        "wanted_square": ({"engine": ENGINE}, {}, tuple),
        "gone_on": ({"engine": ENGINE}, {}, tuple),
        "turned_by_hand": ({"engine": ENGINE}, {}, tuple),
        "painted": ({"engine": ENGINE, "place": 1, "colour": 9}, {}, tuple),
    },
    "texts": {
        "show_engine": ({"engine": ENGINE}, {}, str),
        "show_yard": ({"yard": COLUMN}, {}, str),
        "read_engine": ({"text": "4 -2 n f s0 l3 r1"}, {}, tuple),
        "read_yard": ({"text": "4 -2 n f s0\n5 5 s b l3"}, {}, tuple),
    },
    "roads": {
        "place_of": ({"engine": ENGINE, "i": -77}, {}, tuple),
        "once_round": ({"engine": ENGINE}, {}, tuple),
        "kind_of": ({"engine": ENGINE}, {}, str),
        "round_of": ({"engine": ENGINE}, {}, int),
        "places_of": ({"engine": ENGINE, "square": (4, -2)}, {}, tuple),
        "is_free": ({"engine": ENGINE}, {}, bool),
        "room_of": ({"engine": ENGINE}, {}, tuple),
        "gone_between": ({"one": ENGINE, "other": ENGINE}, {}, int),
    },
    "yards": {
        "look_yard": ({"thing": COLUMN}, {}, bool),
        "what_lies": ({"yard": COLUMN, "square": (0, 0)}, {}, tuple),
        "ground_of": ({"yard": COLUMN}, {}, dict),
        "turned_about": ({"yard": COLUMN}, {}, tuple),
    },
    "beats": {
        "one_turn": ({"yard": COLUMN, "number": 2}, {}, tuple),
        "beat": ({"yard": COLUMN}, {}, tuple),
        "beats": ({"yard": COLUMN, "many": 20}, {}, tuple),
        "back_by": ({"yard": COLUMN, "many": 20}, {}, tuple),
    },
    "colours": {
        "origins_of": ({"yard": COLUMN, "many": 20}, {}, tuple),
    },
    "rounds": {
        "bones_of": ({"yard": COLUMN}, {}, tuple),
        "round_of_yard": ({"yard": COLUMN}, {"most": 5000}, tuple),
    },
    "common": {
        "pairs_of_roads": ({"one": WHEEL, "other": ENGINE}, {}, tuple),
    },
    "meetings": {
        "first_meeting": ({"yard": COLUMN}, {}, tuple),
    },
    "leaps": {
        "far_yard": ({"yard": COLUMN, "many": 20}, {"most": 1000}, tuple),
        "far_meetings": ({"yard": COLUMN, "many": 20}, {"most": 1000}, list),
    },
    "fates": {
        "fate_of": ({"yard": ROUND}, {"most": 1000}, tuple),
        "how_often": ({"yard": TWO}, {"most": 1000}, int),
        "far_of_two": ({"yard": ROUND, "many": 20}, {"most": 1000}, tuple),
    },
    "alike": {
        "led_yard": ({"yard": COLUMN}, {"quarters": 0, "mirrored": False, "dx": 0, "dy": 0}, tuple),
        "leading_from": ({"one": COLUMN, "other": COLUMN}, {}, tuple),
        "code_of": ({"yard": COLUMN}, {}, tuple),
        "seen_of": ({"yard": COLUMN}, {}, dict),
    },
    "stories": {
        "parted_at": ({"one": TWO, "other": TWO[:1] + (engine_of(0, 9, 2, -1, "s", 2),)}, {"most": 200}, int),
        "first_untrue": ({"yards": STORY}, {}, int),
    },
    "hands": {
        "fewest_turnings": ({"yard": TWO, "number": 0, "square": (0, -2), "many": 4}, {}, tuple),
    },
}
# Others than the told defaults.
OTHERWISE = {"steps": 5, "quarters": 3, "mirrored": True, "dx": 4, "dy": -4}
NUMBERS = {
    "engines": {"RAILS": 12, "COLOURS": 10}, "yards": {"ENGINES": 8}, "rounds": {"ROUND": 5000}, "leaps": {"MEETINGS": 1000},
    "fates": {"MEETINGS": 1000}, "stories": {"SEEN": 200}, "ground": {"HISTORY": 5000},
}
ERRORS = {
    "NoEngine": ("word",), "NoYard": ("word", "number"), "NoText": ("at",), "OwnWay": ("number",), "TooMany": ("most",),
    "TooLong": ("most",), "Full": ("most",), "NoColour": ("colour",), "Broken": ("at",), "NoRow": (),
    "NoNumber": ("number",), "NoRail": ("number", "place"), "NoStood": ("k",),
}
# Method: (what goes by place or name, what goes by name alone).
METHODS = {
    "go": ({"many": 3}, {}), "down": ({"engine": ENGINE}, {}), "away": ({"number": 1}, {}), "turn": ({"number": 1}, {}),
    "paint": ({"number": 1, "place": 0, "colour": 9}, {}), "swap": ({"one": 0, "other": 1}, {}), "back": ({}, {}),
    "several": ({"deeds": [("go", 1), ("turn", 0)]}, {"whole": True}), "standing": ({}, {}), "beats_gone": ({}, {}),
    "log": ({}, {}), "stood": ({"k": 0}, {}), "is_open": ({}, {}),
}


def all_functions():
    for module, rows in FUNCTIONS.items():
        for name, (given, named, kind) in rows.items():
            yield getattr(importlib.import_module(f"ownrail.{module}"), name), given, named, kind


def shape_of(ask):
    """(names by place, {name: default} by name alone) of a function's or method's arguments, itself left out."""
    told = [part for part in inspect.signature(ask).parameters.values() if part.name != "self"]
    placed = [part.name for part in told if part.kind == part.POSITIONAL_OR_KEYWORD]
    named = {part.name: part.default for part in told if part.kind == part.KEYWORD_ONLY}
    assert len(placed) + len(named) == len(told)
    return placed, named


def orders(given):
    """The same arguments by name, in each order."""
    return [dict(order) for order in permutations(given.items())]


def lists_and_dicts(thing):
    """All lists and dicts within what was told."""
    found = [thing] if isinstance(thing, (list, dict)) else []
    parts = thing.values() if isinstance(thing, dict) else thing if isinstance(thing, (list, tuple)) else ()
    return found + [deeper for part in parts for deeper in lists_and_dicts(part)]


def is_plain(thing):
    """Whether a thing is of the kinds that point [2] lets be told."""
    if isinstance(thing, dict):
        return all(is_plain(part) for pair in thing.items() for part in pair)
    if isinstance(thing, (list, tuple)):
        return type(thing) in (list, tuple) and all(map(is_plain, thing))
    return type(thing) in (int, str, bool, type(None))


def ground_state(ground):
    return (ground.standing(), ground.beats_gone(), ground.log(), len(ground), repr(ground), ground.is_open())


class Functions(unittest.TestCase):
    def test_names_and_defaults(self):
        for ask, given, named, kind in all_functions():
            self.assertEqual(shape_of(ask), (list(given), named), ask)
            # Truths and numbers are unlike, though Python has them equal.
            self.assertEqual([type(worth) for worth in shape_of(ask)[1].values()], [type(worth) for worth in named.values()])

    def test_by_place_by_names_and_in_another_order(self):
        for ask, given, named, kind in all_functions():
            told = ask(*given.values())
            self.assertIs(type(told), kind, ask)
            for order in orders(given):
                self.assertEqual(ask(**order), told, ask)
            for order in orders({**given, **named})[::7]:
                self.assertEqual(ask(**order), told, ask)
            self.assertEqual(ask(*given.values(), **named), told)
            if given:
                first, *rest = given.items()
                self.assertEqual(ask(first[1], **dict(rest)), told)

    def test_what_may_be_left_out(self):
        for ask, given, named, kind in all_functions():
            for name in named:
                fewer = {other: worth for other, worth in named.items() if other != name}
                self.assertEqual(ask(*given.values(), **fewer), ask(*given.values()), ask)
                if name in OTHERWISE:
                    self.assertNotEqual(ask(*given.values(), **{name: OTHERWISE[name]}), ask(*given.values()), ask)

    def test_by_name_alone(self):
        for ask, given, named, kind in all_functions():
            if named:
                with self.assertRaises(TypeError):
                    ask(*given.values(), list(named.values())[0])

    def test_nothing_handed_in_is_changed(self):
        for ask, given, named, kind in all_functions():
            copied = copy.deepcopy(given)
            ask(**given, **named)
            self.assertEqual(given, copied, ask)

    def test_lists_and_dicts_are_new_ones(self):
        for ask, given, named, kind in all_functions():
            told, again = ask(**given), ask(**given)
            self.assertEqual(told, again)
            taken = {id(part) for part in lists_and_dicts(tuple(given.values()))}
            self.assertEqual({id(part) for part in lists_and_dicts(told)} & ({id(part) for part in lists_and_dicts(again)} | taken),
                             set())
            for part in lists_and_dicts(told):
                part.clear()
            self.assertEqual(ask(**given), again, ask)

    def test_kinds_that_are_told(self):
        for ask, given, named, kind in all_functions():
            self.assertTrue(is_plain(ask(**given)), ask)

    def test_asked_again_whatever_was_asked_between(self):
        told = [ask(**given) for ask, given, named, kind in all_functions()]
        again = [ask(**given) for ask, given, named, kind in list(all_functions())[::-1]]
        self.assertEqual(told, again[::-1])

    def test_dicts_are_told_in_the_same_order(self):
        for ask, given, named, kind in all_functions():
            if kind is dict:
                self.assertEqual(list(ask(**given)), sorted(ask(**given)))


class Numbers(unittest.TestCase):
    def test_them(self):
        for module, rows in NUMBERS.items():
            for name, worth in rows.items():
                told = getattr(importlib.import_module(f"ownrail.{module}"), name)
                self.assertEqual((told, type(told)), (worth, int))


class Errors(unittest.TestCase):
    def test_bases_and_fields(self):
        errors = importlib.import_module("ownrail.errors")
        self.assertEqual(errors.RailError.__bases__, (ValueError,))
        bases = {"NoNumber": IndexError, "NoRail": IndexError, "NoStood": LookupError}
        for name, fields in ERRORS.items():
            kind = getattr(errors, name)
            self.assertEqual(kind.__bases__, (bases.get(name, errors.RailError),))
            for things in ((1, 2), (None, "x"), ((1, (2,)), True)):
                made = kind(*things[:len(fields)])
                self.assertEqual([getattr(made, field) for field in fields], list(things[:len(fields)]))
                named = kind(**dict(zip(fields, things)))
                self.assertEqual([getattr(named, field) for field in fields], list(things[:len(fields)]))


class Grounds(unittest.TestCase):
    def test_each_method_stands_in_the_class(self):
        self.assertEqual(shape_of(Ground.__init__), (["yard"], {"most": 5000}))
        for name, (given, named) in METHODS.items():
            self.assertIn(name, vars(Ground))
            self.assertEqual(shape_of(vars(Ground)[name]), (list(given), named))
        for name in ("__len__", "__eq__", "__repr__"):
            self.assertIn(name, vars(Ground))
        for name in ("say", "__len__"):
            self.assertIn(name, vars(Desk))
        self.assertEqual(shape_of(Desk.say), (["row"], {}))

    def ground(self):
        ground = Ground(TWO)
        ground.go(2)
        return ground

    def test_by_place_by_names_and_in_another_order(self):
        for name, (given, named) in METHODS.items():
            by_place = self.ground()
            told = getattr(by_place, name)(*copy.deepcopy(list(given.values())))
            self.assertTrue(is_plain(told))
            for order in orders({**given, **named}) + orders(given):
                by_name = self.ground()
                copied = copy.deepcopy(order)
                self.assertEqual(getattr(by_name, name)(**order), told, name)
                self.assertEqual(order, copied)
                self.assertEqual(ground_state(by_name), ground_state(by_place))

    def test_made_by_place_and_by_names(self):
        for ground in (Ground(TWO), Ground(yard=TWO), Ground(TWO, most=5000), Ground(most=5000, yard=TWO)):
            self.assertEqual(ground_state(ground), ground_state(Ground(TWO)))
        self.assertEqual(ground_state(Ground(most=9)), ground_state(Ground()))

    def test_by_name_alone(self):
        with self.assertRaises(TypeError):
            Ground(TWO, 9)
        with self.assertRaises(TypeError):
            Ground(TWO).several([], True)

    def test_lists_are_new_ones(self):
        ground = self.ground()
        for ask in (ground.log, lambda: ground.several([])):
            told = ask()
            self.assertIs(type(told), list)
            told.append("mine")
            self.assertNotEqual(ask(), told)

    def test_asked_again_while_it_stands(self):
        ground = self.ground()
        for name in ("standing", "beats_gone", "log", "is_open"):
            self.assertEqual(getattr(ground, name)(), getattr(ground, name)())
        self.assertEqual(ground.stood(0), ground.stood(0))

    def test_a_desk(self):
        desk = Desk()
        self.assertEqual(desk.say("yard 0 0 n f s1"), Desk().say(row="yard 0 0 n f s1"))
        self.assertEqual(desk.say("show"), desk.say(row="show"))
        with self.assertRaises(TypeError):
            Desk(TWO)


if __name__ == "__main__":
    unittest.main()
