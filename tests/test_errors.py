"""The interface, ownrail/errors.py: each class's place under the others, and its fields."""

import unittest

from ownrail import errors
from samples import ANY_THINGS

UNDER_RAIL_ERROR = {
    "NoEngine": ("word",),
    "NoYard": ("word", "number"),
    "NoText": ("at",),
    "OwnWay": ("number",),
    "TooMany": ("most",),
    "TooLong": ("most",),
    "Full": ("most",),
    "NoColour": ("colour",),
    "Broken": ("at",),
    "NoRow": (),
}
UNDER_INDEX_ERROR = {"NoNumber": ("number",), "NoRail": ("number", "place")}
UNDER_LOOKUP_ERROR = {"NoStood": ("k",)}
FIELDS = {**UNDER_RAIL_ERROR, **UNDER_INDEX_ERROR, **UNDER_LOOKUP_ERROR}
BASES = {
    **{name: errors.RailError for name in UNDER_RAIL_ERROR},
    **{name: IndexError for name in UNDER_INDEX_ERROR},
    **{name: LookupError for name in UNDER_LOOKUP_ERROR},
    "RailError": ValueError,
}


class Places(unittest.TestCase):
    def test_each_stands_right_under_its_base(self):
        for name, base in BASES.items():
            self.assertEqual(getattr(errors, name).__bases__, (base,), name)

    def test_none_stands_under_another(self):
        for name in FIELDS:
            for other in FIELDS:
                under = issubclass(getattr(errors, name), getattr(errors, other))
                self.assertEqual(under, name == other, (name, other))

    def test_rail_error_is_above_its_own_alone(self):
        for name in FIELDS:
            under = issubclass(getattr(errors, name), errors.RailError)
            self.assertEqual(under, name in UNDER_RAIL_ERROR, name)

    def test_those_beside_are_no_value_errors(self):
        for name in ("NoNumber", "NoRail", "NoStood"):
            self.assertFalse(issubclass(getattr(errors, name), ValueError), name)
        self.assertFalse(issubclass(errors.NoStood, IndexError))


class Fields(unittest.TestCase):
    def check_kept(self, name, error, told):
        self.assertEqual(vars(error), told, name)
        for field, thing in told.items():
            self.assertIs(getattr(error, field), thing, (name, field))

    def things_for(self, fields):
        for at in range(len(ANY_THINGS)):
            # Two fields get unlike things, so that none is kept in another's place.
            yield [ANY_THINGS[(at + shift) % len(ANY_THINGS)] for shift in range(len(fields))]

    def test_by_place(self):
        for name, fields in FIELDS.items():
            for things in self.things_for(fields):
                error = getattr(errors, name)(*things)
                self.check_kept(name, error, dict(zip(fields, things)))

    def test_by_name(self):
        for name, fields in FIELDS.items():
            for things in self.things_for(fields):
                told = dict(zip(fields, things))
                self.check_kept(name, getattr(errors, name)(**told), told)
                turned = dict(reversed(list(told.items())))
                self.check_kept(name, getattr(errors, name)(**turned), told)

    def test_one_by_place_one_by_name(self):
        self.check_kept("NoYard", errors.NoYard("met", number=3), {"word": "met", "number": 3})
        self.check_kept("NoRail", errors.NoRail(2, place=-1), {"number": 2, "place": -1})

    def test_needs_what_stands_in_brackets(self):
        for name, fields in FIELDS.items():
            if fields:
                with self.assertRaises(TypeError, msg=name):
                    getattr(errors, name)()
                with self.assertRaises(TypeError, msg=name):
                    getattr(errors, name)(*fields, 0)

    def test_raised_and_caught(self):
        for name, fields in FIELDS.items():
            with self.assertRaises(BASES[name]) as caught:
                raise getattr(errors, name)(*range(len(fields)))
            self.check_kept(name, caught.exception, dict(zip(fields, range(len(fields)))))

    def test_rail_error_itself(self):
        with self.assertRaises(ValueError):
            raise errors.RailError()


if __name__ == "__main__":
    unittest.main()
