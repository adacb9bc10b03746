"""Point [7]: the texts of engines and yards, told, read back, and refused with the very at that is due."""

import inspect
import re
import unittest
from itertools import product
from random import Random

from ownrail import texts
from ownrail.errors import NoText
from ownrail.texts import read_engine, read_yard, show_engine, show_yard
from samples import FAR, LOOKS, WAYS, long_engines, rails_of, short_engines, walked
from yard_samples import lies_once, random_engine, random_yard, sample_yards, slow_squares

EXAMPLE = "4 -2 n f s0 l3 r1"
LONGEST = "-1000000000 1000000000 w b s0 s1 s2 s3 s4 s5 s6 s7 s8 s9 l0 r1"
NO_NUMBERS = ("", "-", "--1", "+1", "-0", "00", "01", "-01", "007", "1-", "1.0", "1_0", "x", "0x1", " ", "1\n", "\n1",
              "n", "f", "s0", "1e3", "\u0661", "\u00b2", "1000000001", "-1000000001", "01000000000", "10000000000",
              "9" * 5000, "-" + "9" * 5000, "0" * 5000)
NO_WAYS = ("", "N", "ne", "nesw", "x", "f", "0", "n\n", "es", "l")
NO_LOOKS = ("", "F", "B", "fb", "bf", "1", "-1", "n", "x", "f\n")
NO_RAILS = ("", "s", "0", "s10", "S0", "x0", "0s", "ss", "s-", "s0\n", "\ns0", "s 0", "ls0", "lsr", "n0", "s\u0661", "s00")


def slow_read(text):
    """The engine of a text, or the at that is due, by patterns over the words."""
    words = text.split(" ")
    patterns = [r"0|-?[1-9][0-9]{0,9}"] * 2 + ["n|e|s|w", "f|b"] + [r"[lsr][0-9]"] * 12
    for at, word in enumerate(words):
        if at >= len(patterns) or not re.fullmatch(patterns[at], word):
            return at
        if at < 2 and abs(int(word)) > FAR:
            return at
        if at >= 4 and not lies_once((slow_engine(words[:at + 1]),)):
            return at
    return len(words) if len(words) < 5 else slow_engine(words)


def slow_engine(words):
    rails = tuple((word[0], int(word[1])) for word in words[4:])
    return (int(words[0]), int(words[1]), "nesw".index(words[2]), {"f": 1, "b": -1}[words[3]], rails)


class Reading(unittest.TestCase):
    def refused(self, text, at, read=read_engine):
        with self.assertRaises(NoText, msg=repr(text[:200])) as caught:
            read(text)
        self.assertEqual(caught.exception.at, at, repr(text[:200]))
        self.assertIs(type(caught.exception.at), int)

    def refused_whatever_behind(self, words, at):
        """Refused at at, and so with all behind that word out, otherwise, or more."""
        words = list(words)
        for behind in (words[at + 1:], [], [""], ["x", "", "9"], ["s0"] * 20, words):
            self.refused(" ".join(words[:at + 1] + behind), at)

    def checked(self, text):
        due = slow_read(text)
        if isinstance(due, int):
            self.refused(text, due)
        else:
            self.assertEqual(read_engine(text), due)
            self.assertEqual(show_engine(due), text)


class Told(unittest.TestCase):
    def test_by_hand(self):
        engine = (4, -2, 0, 1, (("s", 0), ("l", 3), ("r", 1)))
        self.assertEqual(show_engine(engine), EXAMPLE)
        self.assertEqual(read_engine(EXAMPLE), engine)
        longest = (-FAR, FAR, 3, -1, tuple(("s", colour) for colour in range(10)) + (("l", 0), ("r", 1)))
        self.assertEqual(show_engine(longest), LONGEST)
        self.assertEqual(read_engine(LONGEST), longest)
        self.assertEqual(show_engine((0, 0, 1, 1, (("r", 9),))), "0 0 e f r9")
        self.assertEqual(show_engine((-1, 10, 2, -1, (("l", 0),))), "-1 10 s b l0")

    def test_told_and_read_back(self):
        for engine in list(short_engines(3)) + list(long_engines()):
            text = show_engine(engine)
            self.assertEqual(slow_read(text), engine)
            self.assertEqual(read_engine(text), engine)

    def test_one_to_twelve_rails(self):
        for many, way, look, x, y in product(range(1, 13), WAYS, LOOKS, (0, 7, -FAR, FAR), (0, -10, FAR)):
            engine = (x, y, way, look, rails_of(("srl" * 4)[:many]))
            text = show_engine(engine)
            self.assertEqual(len(text.split(" ")), 4 + many)
            self.assertEqual(text.split(" ")[:4], [str(x), str(y), "nesw"[way], "f" if look == 1 else "b"])
            self.assertEqual(read_engine(text), engine)

    def test_all_rails(self):
        for shape, colour in product("lsr", range(10)):
            text = f"0 0 n f {shape}{colour}"
            self.assertEqual(show_engine((0, 0, 0, 1, ((shape, colour),))), text)
            self.assertEqual(read_engine(text), (0, 0, 0, 1, ((shape, colour),)))

    def test_texts_beyond_the_bound_are_told(self):
        far = (FAR + 1, -(10 ** 15), 1, 1, (("s", 0),))
        self.assertEqual(show_engine(far), "1000000001 -1000000000000000 e f s0")
        self.assertEqual(show_yard((far,)), "1000000001 -1000000000000000 e f s0")

    def test_kinds(self):
        self.assertIs(type(show_engine(read_engine(EXAMPLE))), str)
        x, y, way, look, rails = read_engine(EXAMPLE)
        self.assertEqual([type(part) for part in (x, y, way, look, rails)], [int, int, int, int, tuple])
        self.assertEqual({type(rail) for rail in rails}, {tuple})
        self.assertIs(type(read_yard("")), tuple)
        self.assertIs(type(read_yard(EXAMPLE)), tuple)


class NoEngineText(Reading):
    def test_no_signs(self):
        self.refused("", 0)

    def test_ends_too_early(self):
        for many in range(1, 5):
            self.refused(" ".join(EXAMPLE.split(" ")[:many]), many)
            self.refused(" ".join(EXAMPLE.split(" ")[:many]) + " ", many)

    def test_numbers(self):
        for words in (EXAMPLE.split(" "), LONGEST.split(" ")):
            for at, bad in product((0, 1), NO_NUMBERS):
                if bad != " ":
                    self.refused_whatever_behind(words[:at] + [bad] + words[at + 1:], at)

    def test_numbers_at_the_bound(self):
        for x, y in product((FAR, -FAR, 0, FAR - 1), repeat=2):
            self.assertEqual(read_engine(f"{x} {y} n f s0")[:2], (x, y))

    def test_ways_and_looks(self):
        words = EXAMPLE.split(" ")
        for bad in NO_WAYS:
            self.refused_whatever_behind(words[:2] + [bad] + words[3:], 2)
        for bad in NO_LOOKS:
            self.refused_whatever_behind(words[:3] + [bad] + words[4:], 3)

    def test_rails(self):
        words = LONGEST.split(" ")
        for at, bad in product(range(4, 16), NO_RAILS):
            if " " not in bad:
                self.refused_whatever_behind(words[:at] + [bad] + words[at + 1:], at)

    def test_blanks(self):
        for text, at in ((" " + EXAMPLE, 0), (EXAMPLE + " ", 7), ("4  -2 n f s0", 1), ("4 -2  n f s0", 2),
                         ("4 -2 n  f s0", 3), ("4 -2 n f  s0", 4), ("4 -2 n f s0  l3", 5), (" ", 0), ("  ", 0),
                         (LONGEST + " ", 16)):
            self.refused(text, at)

    def test_line_feeds(self):
        for text, at in (("\n", 0), (EXAMPLE + "\n", 6), ("\n" + EXAMPLE, 0), ("4 -2 n f\ns0", 3),
                         (EXAMPLE + "\n" + EXAMPLE, 6), ("4\n-2 n f s0", 0)):
            self.refused(text, at)

    def test_more_than_twelve_rails(self):
        for more in (["s0"], ["s0"] * 5, ["x"], [""], ["l0", "x"], ["s0"] * 1900):
            self.refused(" ".join(LONGEST.split(" ") + more), 16)

    def test_the_first_word_counts(self):
        words = LONGEST.split(" ")
        for first, second in product(range(16), repeat=2):
            bad = list(words)
            bad[first] = bad[second] = "?"
            self.refused(" ".join(bad), min(first, second))
            self.refused(" ".join(bad + ["s0"]), min(first, second))


class TwiceOnOneSquare(Reading):
    def test_a_ring_of_four_at_each_place(self):
        for ahead, bend, way, look in product(range(8), "lr", "nesw", "fb"):
            words = ["2", "5", way, look] + ["s1"] * ahead + ["s2"] + [bend + "3"] * 3 + ["s0"]
            self.refused_whatever_behind(words, 4 + ahead + 4)
            self.assertEqual(len(read_engine(" ".join(words[:-1]))[4]), ahead + 4)

    def test_the_eleventh_and_the_twelfth_rail(self):
        # Ten squares of a ring, which comes onto its begin from the side.
        ring = "s0 s0 r0 s0 s0 r0 s0 r0 s0 s0"
        self.refused_whatever_behind(f"9 9 n f {ring} s0".split(" "), 14)
        self.refused_whatever_behind(f"9 9 n f s0 {ring} s0".split(" "), 15)
        self.refused_whatever_behind(f"9 9 n f s0 {ring} x".split(" "), 15)
        self.assertEqual(len(read_engine(f"9 9 n f s0 {ring}")[4]), 11)

    def test_its_shape_does_not_matter(self):
        for shape in "lsr":
            self.refused(f"0 0 e b s0 r0 r0 r0 {shape}0", 8)

    def test_as_far_out_as_may_be(self):
        self.refused(f"{FAR} {-FAR} n f s0 r0 r0 r0 s0", 8)
        self.assertEqual(len(read_engine(f"{FAR} {-FAR} n f s0 r0 r0 r0")[4]), 4)


class Changed(Reading):
    """Good texts with one thing otherwise, against the slow reader."""

    def texts(self):
        chance = Random(7)
        yield EXAMPLE
        yield LONGEST
        for many in range(1, 13):
            yield show_engine((chance.choice((0, -3, FAR)), 20, chance.choice(WAYS), -1, rails_of(("slr" * 4)[:many])))
        for again in range(12):
            yield show_engine(random_engine(chance))

    def test_words_out_otherwise_and_put_in(self):
        others = ("", "0", "-1", "n", "s", "f", "b", "s0", "l9", "r5", "00", "-0", "1000000001", "?")
        for text in self.texts():
            words = text.split(" ")
            for at in range(len(words) + 1):
                self.checked(" ".join(words[:at] + words[at + 1:]))
                for other in others:
                    self.checked(" ".join(words[:at] + [other] + words[at + 1:]))
                    self.checked(" ".join(words[:at] + [other] + words[at:]))

    def test_words_exchanged(self):
        for text in self.texts():
            words = text.split(" ")
            for one, other in product(range(len(words)), repeat=2):
                changed = list(words)
                changed[one], changed[other] = words[other], words[one]
                self.checked(" ".join(changed))

    def test_signs_otherwise(self):
        for text in self.texts():
            for at in range(len(text)):
                for sign in "0 1 9 - n f s l r x ~ \n".split(" ") + [" ", ""]:
                    self.checked(text[:at] + sign + text[at + 1:])
                    self.checked(text[:at] + sign + text[at:])

    def test_all_short_roads(self):
        for shapes in product("lsr", repeat=6):
            self.checked("0 0 n f " + " ".join(shape + "0" for shape in shapes))


class Yards(Reading):
    def rows(self, many):
        return [f"{3 * at} 0 n f s{at} l{at + 1}" for at in range(many)]

    def refused_yard(self, rows, at):
        self.refused("\n".join(rows), at, read_yard)

    def test_no_engines(self):
        self.assertEqual(show_yard(()), "")
        self.assertEqual(read_yard(""), ())

    def test_by_hand(self):
        yard = ((4, -2, 0, 1, (("s", 0), ("l", 3), ("r", 1))), (0, 0, 1, -1, (("r", 9),)))
        self.assertEqual(show_yard(yard), EXAMPLE + "\n0 0 e b r9")
        self.assertEqual(read_yard(EXAMPLE + "\n0 0 e b r9"), yard)
        self.assertEqual(read_yard("0 0 e b r9\n" + EXAMPLE), yard[::-1])

    def test_none_to_eight_engines(self):
        for many in range(9):
            yard = read_yard("\n".join(self.rows(many)))
            self.assertEqual(len(yard), many)
            self.assertEqual(yard, tuple(slow_read(row) for row in self.rows(many)))
            self.assertEqual(show_yard(yard), "\n".join(self.rows(many)))

    def test_told_and_read_back(self):
        for yard in sample_yards(71):
            text = show_yard(yard)
            self.assertEqual(text.split("\n") if yard else [], [show_engine(engine) for engine in yard])
            self.assertEqual(read_yard(text), yard)

    def test_a_line_feed_at_the_end(self):
        for many in range(9):
            self.refused("\n".join(self.rows(many)) + "\n", many, read_yard)

    def test_line_feeds_alone(self):
        self.refused("\n", 0, read_yard)
        self.refused("\n\n\n", 0, read_yard)
        self.refused(" ", 0, read_yard)

    def test_rows_without_signs(self):
        for many in range(1, 8):
            for at in range(many):
                rows = self.rows(many)
                self.refused_yard(rows[:at] + [""] + rows[at:], at)

    def test_nine_rows_and_more(self):
        for many in (9, 10, 12, 200):
            self.refused_yard(self.rows(8) + ["0 9 n f s0"] * (many - 8), 8)
        for last in ("", "x", EXAMPLE, self.rows(1)[0]):
            self.refused_yard(self.rows(8) + [last], 8)

    def test_each_row_that_is_none(self):
        bad_rows = ("x", "", " ", "0 0 n f", "0 40 n f s0 ", "-0 40 n f s0", f"{FAR + 1} 0 n f s0", "0 40 n f s0 s0 r0 x",
                    "0 40 n f s0 r0 r0 r0 s0", "0 40 n f " + "s0 " * 12 + "s0")
        for many in range(1, 9):
            for at, bad in product(range(many), bad_rows):
                rows = self.rows(many)
                rows[at] = bad
                self.refused_yard(rows[:at + 1] + ["?"] * 9, at)
                # A row without signs alone is the yard without engines.
                if rows != [""]:
                    self.refused_yard(rows, at)

    def test_two_engines_on_one_square(self):
        for many in range(2, 9):
            for one, other in product(range(many), repeat=2):
                rows = self.rows(many)
                # (3 * one, 1) is the second square of engine one.
                for extra in (f"{3 * one} 1 e b s7", f"{3 * one + 1} 1 w f s0 s0"):
                    if one != other:
                        self.refused_yard(rows[:other] + [extra] + rows[other + 1:], max(one, other))

    def test_each_square_of_the_engine_ahead(self):
        chance = Random(72)
        for again in range(40):
            ahead, behind = random_yard(chance, 2)
            for x, y in slow_squares(ahead):
                rows = [show_engine(ahead), show_engine(behind), f"{x} {y} n f s0"]
                self.refused_yard(rows, 2)
                self.refused_yard(rows[::-1], 2)

    def test_the_first_row_counts(self):
        rows = self.rows(8)
        for first, second in product(range(8), repeat=2):
            bad = list(rows)
            bad[first] = "0 0 n"
            bad[second] = "0 0 n"
            self.refused_yard(bad + ["x"], min(first, second))

    def test_met_or_none(self):
        # Row 2 lies on row 0; a row that is none ahead of it, or behind it.
        for at in (0, 1):
            rows = self.rows(2) + ["0 0 e f s0"] + ["30 30 n f s0"]
            rows[at] = "x"
            self.refused_yard(rows, at)
        rows = self.rows(2) + ["0 0 e f s0", "x"]
        self.refused_yard(rows, 2)


class Interface(unittest.TestCase):
    def test_names_of_the_arguments(self):
        told = {"show_engine": "(engine)", "show_yard": "(yard)", "read_engine": "(text)", "read_yard": "(text)"}
        for name, arguments in told.items():
            self.assertEqual(str(inspect.signature(getattr(texts, name))), arguments)
        self.assertEqual(show_engine(engine=read_engine(text=EXAMPLE)), EXAMPLE)
        self.assertEqual(show_yard(yard=read_yard(text=EXAMPLE)), EXAMPLE)

    def test_the_slow_reader_walks_as_the_samples_do(self):
        road = walked(slow_read(EXAMPLE), 0, 2)
        self.assertEqual([road[at][0] for at in range(3)], [(4, -2), (4, -1), (3, -1)])


if __name__ == "__main__":
    unittest.main()
