"""Points [27] and [28]: a desk that is told rows and answers by texts."""

import inspect
import unittest
from random import Random

from ownrail.beats import beats
from ownrail.desk import Desk
from ownrail.errors import Full, NoNumber, NoRail, NoRow, NoText, NoYard, OwnWay, TooMany
from ownrail.fates import fate_of
from ownrail.ground import Ground
from ownrail.leaps import far_yard
from ownrail.meetings import first_meeting
from ownrail.roads import place_of
from ownrail.texts import show_engine, show_yard
from ownrail.yards import what_lies
from samples import FAR
from yard_samples import COLUMN, OWN_WAY, WHEEL, engine_of, free_yard, random_yard, sample_yards

MOST = 10 ** 12
TWO = "yard 0 0 n f s1 ; 0 9 s f s2"
# To and fro between two wheels, with one square to spare: a beat with a meeting each second beat.
NARROW = (engine_of(0, 0, 0, 1, "s", 3), engine_of(0, 3, 0, 1, "rrrr", 5), engine_of(0, -1, 0, -1, "rrrr", 1))


def as_row(yard):
    return show_yard(yard).replace("\n", " ; ")


def desk_with(yard):
    desk = Desk()
    if yard:
        desk.say("yard " + as_row(yard))
    return desk


class Case(unittest.TestCase):
    def says(self, desk, *pairs):
        for row, answer in pairs:
            told = desk.say(row)
            self.assertIs(type(told), str)
            self.assertEqual(told, answer, row)

    def refused(self, error, fields, desk, row):
        """Refused with these fields, and the desk is as it was."""
        before = (desk.say("show"), len(desk))
        with self.assertRaises(error) as caught:
            desk.say(row)
        self.assertIs(type(caught.exception), error, row)
        for name, worth in fields.items():
            self.assertEqual(getattr(caught.exception, name), worth, row)
        self.assertEqual((desk.say("show"), len(desk)), before)

    def no_row(self, desk, *rows):
        for row in rows:
            self.refused(NoRow, {}, desk, row)


class Rows(Case):
    def test_at_first(self):
        desk = Desk()
        self.assertEqual(len(desk), 0)
        self.says(desk, ("show", "none"), ("back", "nothing"), ("seen 0 0", "none"), ("meet", "never"), ("far 5", "none"),
                  ("go 3", "0 met"), ("back", "back"), ("back", "nothing"))

    def test_yard(self):
        desk = Desk()
        self.says(desk, (TWO, "2 engines"), ("show", TWO[5:]), ("yard 5 -5 w b l0 r9", "1 engines"), ("show", "5 -5 w b l0 r9"))
        for yard in sample_yards(221):
            if yard:
                self.says(desk, ("yard " + as_row(yard), f"{len(yard)} engines"), ("show", as_row(yard)))

    def test_a_new_yard_is_a_new_ground(self):
        desk = desk_with(COLUMN)
        self.says(desk, ("go 5000", f"{len(beats(COLUMN, 5000)[1])} met"))
        self.assertEqual(len(desk), 1)
        self.refused(Full, {"most": 5000}, desk, "go 1")
        self.says(desk, ("turn 0", "turned"), (TWO, "2 engines"))
        self.assertEqual(len(desk), 0)
        self.says(desk, ("back", "nothing"), ("go 5000", "2 met"))

    def test_go(self):
        for yard in sample_yards(222, each=1):
            desk = desk_with(yard)
            later, rows = beats(yard, 30)
            self.says(desk, ("go 30", f"{len(rows)} met"), ("show", as_row(later) or "none"), ("go 0", "0 met"))
            self.assertEqual(len(desk), 2)
            self.says(desk, ("back", "back"), ("back", "back"), ("show", as_row(yard) or "none"))

    def test_deeds(self):
        desk = desk_with((engine_of(0, 0, 0, 1, "s", 1),))
        self.says(
            desk, ("down 5 5 e b l3 r4", "number 1"), ("down -9 -9 w f s0", "number 2"), ("turn 1", "turned"),
            ("show", "0 0 n f s1 ; 5 5 e f l3 r4 ; -9 -9 w f s0"), ("paint 1 1 9", "was 4"), ("paint 1 1 0", "was 9"),
            ("swap 0 2", "swapped"), ("show", "-9 -9 w f s0 ; 5 5 e f l3 r0 ; 0 0 n f s1"), ("swap 1 1", "swapped"),
            ("away 0", "-9 -9 w f s0"), ("away 0", "5 5 e f l3 r0"), ("show", "0 0 n f s1"), ("away 0", "0 0 n f s1"),
            ("show", "none"))
        self.assertEqual(len(desk), 10)
        for many in range(9, -1, -1):
            self.says(desk, ("back", "back"))
            self.assertEqual(len(desk), many)
        self.says(desk, ("back", "nothing"), ("show", "0 0 n f s1"))

    def test_seen(self):
        for yard in sample_yards(223, each=1):
            desk = desk_with(yard)
            for x in range(-8, 9):
                for y in range(-8, 9):
                    there = what_lies(yard, (x, y))
                    told = "none" if there is None else str(yard[there[0]][4][there[1]][1])
                    self.says(desk, (f"seen {x} {y}", told))
        desk = desk_with((engine_of(FAR, -FAR, 1, 1, "ss", 7),))
        self.says(desk, (f"seen {FAR} -{FAR}", "7"), (f"seen {FAR + 1} -{FAR}", "8"), (f"seen {MOST} -{MOST}", "none"))

    def test_road(self):
        for yard in sample_yards(224, each=1):
            desk = desk_with(yard)
            for number, engine in enumerate(yard):
                for i in (0, 1, -1, 5, -1000, 999, MOST, -MOST):
                    (x, y), way = place_of(engine, i)
                    self.says(desk, (f"road {number} {i}", f"{x} {y} {'nesw'[way]}"))
            self.assertEqual(len(desk), 0)

    def test_meet(self):
        self.says(desk_with(()), ("meet", "never"))
        self.says(desk_with((WHEEL,)), ("meet", "never"))
        chance = Random(225)
        for again in range(30):
            yard = free_yard(chance, chance.randint(1, 4), 5, 6)
            told = first_meeting(yard)
            self.says(desk_with(yard), ("meet", "never" if told is None else f"{told[0]} {told[1]} {told[2]}"))
        self.says(desk_with((engine_of(0, -FAR, 0, 1, "s"), engine_of(0, FAR, 2, 1, "s"))), ("meet", f"{FAR} 1 0"))

    def test_far(self):
        chance = Random(226)
        for again in range(20):
            yard = free_yard(chance, chance.randint(1, 3), 5, 6)
            desk = desk_with(yard)
            for many in (0, 1, 50, 1000):
                self.says(desk, (f"far {many}", as_row(far_yard(yard, many, most=2000))), ("show", as_row(yard)))
            self.assertEqual(len(desk), 0)
        self.says(desk_with((engine_of(0, 0, 0, 1, "s", 3),)), (f"far {MOST}", f"0 {MOST} n f s3"))

    def test_fate(self):
        chance = Random(227)
        words = set()
        for again in range(60):
            yard = free_yard(chance, 2, 3, 6)
            told = fate_of(yard, most=2000)
            words.add(told[0])
            self.says(desk_with(yard), ("fate", " ".join(map(str, told))))
        self.assertEqual(words, {"free", "round"})
        desk = Desk()
        self.says(desk, (TWO, "2 engines"), ("fate", "free 5"), ("yard -1 0 s f r4 s6 s1 s5 s5 s5 s3 s5 r1 ; -3 1 w f s6", "2 engines"),
                  ("fate", "round 10 0 0"))

    def test_what_is_asked_changes_nothing(self):
        desk = Desk()
        desk.say(TWO)
        desk.say("go 2")
        for again in range(2):
            self.says(desk, ("show", "0 2 n f s1 ; 0 7 s f s2"), ("seen 0 2", "1"), ("road 0 -3", "0 -1 n"), ("meet", "3 0 1"),
                      ("far 1", "0 3 n f s1 ; 0 6 s f s2"), ("fate", "free 3"))
            self.assertEqual(len(desk), 1)

    def test_beside_a_ground(self):
        """Many rows in a row, each deed done to a Ground as well."""
        chance = Random(228)
        for again in range(20):
            yard = random_yard(chance, chance.randint(1, 5), 5, 5)
            desk, ground = desk_with(yard), Ground(yard)
            for step in range(25):
                number = chance.randint(0, len(ground.standing()))
                row, deed = chance.choice((
                    (f"turn {number}", ("turn", number)), (f"away {number}", ("away", number)),
                    (f"swap {number} 0", ("swap", number, 0)), (f"paint {number} 1 4", ("paint", number, 1, 4)),
                    ("go 7", ("go", 7)), ("back", None)))
                try:
                    if deed is None:
                        ground.back()
                    else:
                        getattr(ground, deed[0])(*deed[1:])
                except (NoNumber, NoRail) as error:
                    self.refused(type(error), vars(error), desk, row)
                else:
                    desk.say(row)
                self.assertEqual(desk.say("show"), as_row(ground.standing()) or "none")
                self.assertEqual(len(desk), len(ground))


class NoRows(Case):
    def test_other_words(self):
        desk = desk_with(COLUMN)
        self.no_row(desk, "", " ", "\n", "hello", "Show", "SHOW", "shown", "gone 1", "0", ";", "stood 0", "log", "several", "~",
                    "yards 0 0 n f s0", "T", "none", "engines")

    def test_a_word_less(self):
        desk = desk_with(COLUMN)
        self.no_row(desk, "yard", "go", "down", "away", "turn", "paint", "paint 0", "paint 0 0", "swap", "swap 0", "seen", "seen 0",
                    "road", "road 0", "far")

    def test_a_word_more(self):
        desk = desk_with(COLUMN)
        self.no_row(desk, "go 1 1", "away 0 0", "turn 0 0", "paint 0 0 0 0", "swap 0 0 0", "back 0", "back back", "show 0",
                    "seen 0 0 0", "road 0 0 0", "meet 0", "far 1 1", "fate 0", "show ;")

    def test_blanks(self):
        desk = desk_with(COLUMN)
        for row in ("go 1", "turn 0", "back", "show", "seen 0 0", "road 0 0", "meet", "far 1", "swap 0 1", "paint 0 0 1", "away 0",
                    "down 50 50 n f s0 s1", "yard 50 50 n f s0 ; 60 60 n f s1"):
            self.no_row(desk, " " + row, row + " ", "  " + row, row + "  ")
            for at, sign in enumerate(row):
                if sign == " ":
                    self.no_row(desk, row[:at] + " " + row[at:])
        self.no_row(desk, "yard ", "down ", "go ", "yard  ", "down  x")

    def test_line_feeds(self):
        desk = desk_with(COLUMN)
        for row in ("go 1", "back", "show", "down 50 50 n f s0", "yard 50 50 n f s0 ; 60 60 n f s1", "fate", "far 1"):
            for at in range(len(row) + 1):
                self.no_row(desk, row[:at] + "\n" + row[at:])
        self.no_row(desk, "yard 50 50 n f s0\n60 60 n f s1", "yard 50 50 n f s0 \n 60 60 n f s1", "show\n", "\nshow")

    def test_figures(self):
        desk = desk_with(COLUMN)
        bad = ("00", "01", "007", "-0", "-1", "+1", "1.0", "1e3", "one", "0x1", "1_000", "", "-", "--1", "1-", str(MOST + 1),
               "9" * 13, "9" * 6000, "1,000")
        for word in bad:
            self.no_row(desk, f"go {word}", f"away {word}", f"turn {word}", f"paint {word} 0 0", f"paint 0 {word} 0",
                        f"paint 0 0 {word}", f"swap {word} 0", f"swap 0 {word}", f"road {word} 0", f"far {word}")
        for word in bad:
            if word != "-1":
                self.no_row(desk, f"seen {word} 0", f"seen 0 {word}", f"road 0 {word}")
        self.no_row(desk, f"seen -{MOST + 1} 0", f"seen 0 -{MOST + 1}", f"road 0 -{MOST + 1}", "seen -01 0", "road 0 -00")
        self.no_row(desk, "paint 0 0 10", "paint 0 0 00", "paint 0 0 -1", "paint 0 0 12", "paint 0 0 c", "paint 0 0 01")

    def test_just_the_bound(self):
        desk = desk_with(COLUMN)
        self.refused(Full, {"most": 5000}, desk, f"go {MOST}")
        self.refused(NoNumber, {"number": MOST}, desk, f"away {MOST}")
        self.refused(NoNumber, {"number": MOST}, desk, f"road {MOST} -{MOST}")
        self.refused(NoRail, {"number": 0, "place": MOST}, desk, f"paint 0 {MOST} 9")
        self.says(desk, (f"seen -{MOST} {MOST}", "none"), (f"seen {MOST} -{MOST}", "none"))

    def test_fate_where_there_are_not_two(self):
        for many in (0, 1, 3, 8):
            yard = tuple(engine_of(10 * at, 0, 0, 1, "s") for at in range(many))
            self.no_row(desk_with(yard), "fate")
        desk = Desk()
        desk.say(TWO)
        desk.say("away 0")
        self.no_row(desk, "fate")
        desk.say("back")
        self.says(desk, ("fate", "free 5"))
        # Ahead of an engine that isn't free by itself.
        self.no_row(desk_with((OWN_WAY,)), "fate")

    def test_ahead_of_texts(self):
        desk = desk_with(COLUMN)
        self.no_row(desk, "yard x  y", "down x  y", "yard x\ny", "down \n")


class NoTexts(Case):
    def test_engines(self):
        desk = desk_with(COLUMN)
        for text, at in (
                ("x", 0), ("0", 1), ("0 0", 2), ("0 0 n", 3), ("0 0 n f", 4), ("0 0 x f s0", 2), ("0 0 n x s0", 3), ("0 0 n f x", 4),
                ("0 0 n f s0 s", 5), ("00 0 n f s0", 0), ("-0 0 n f s0", 0), ("0 01 n f s0", 1), (f"{FAR + 1} 0 n f s0", 0),
                (f"0 -{FAR + 1} n f s0", 1), ("0 0 n f s10", 4), ("0 0 n f r0 r1 r2 r3 r4", 8), (";", 0), ("0 0 n f s0 ;", 5),
                ("0 0 n f s0 ; 5 5 n f s0", 5), ("50 50 n f " + " ".join(["s0"] * 13), 16), ("show", 0), (str(10 ** 40), 0)):
            self.refused(NoText, {"at": at}, desk, "down " + text)

    def test_ahead_of_the_ground(self):
        desk = desk_with(tuple(engine_of(10 * at, 0, 0, 1, "s") for at in range(8)))
        self.refused(NoText, {"at": 5}, desk, "down 0 0 n f s0 x")
        self.refused(NoYard, {"word": "many", "number": 8}, desk, "down 0 0 n f s0")

    def test_yards(self):
        desk = desk_with(COLUMN)
        good = "0 0 n f s0"
        for text, at in (
                ("x", 0), (good + " ; x", 1), (good + " ; 5 5 n f s0 ; 5 5 n f s1", 2), (good + " ; " + good, 1), ("x ; y", 0),
                (good + " ; 5 5 n f s0 ; 6 6 n f", 2), (f"{FAR + 1} 0 n f s0", 0), (good + " x", 0), ("0", 0), ("-0 0 n f s0", 0),
                (" ; ".join(f"{10 * at} 0 n f s0" for at in range(9)), 8),
                (" ; ".join(f"{10 * at} 0 n f s0" for at in range(9)) + " ; x", 8)):
            self.refused(NoText, {"at": at}, desk, "yard " + text)

    def test_a_semicolon_as_first_or_last_word(self):
        desk = desk_with(COLUMN)
        good, other = "0 0 n f s0", "5 5 n f s0"
        for text, at in (
                (";", 0), ("; ;", 0), ("; ; ;", 0), (f"; {good}", 0), (f"{good} ;", 0), (f"; {good} ;", 0), (f"{good} ; ;", 1),
                (f"; ; {good}", 0), (f"{good} ; ; {other}", 1), (f"{good} ; {other} ;", 1), (f"{good} ; ; ; {other}", 1),
                (f"; {good} ; {other}", 0), (f"{good};{other}", 0), (f"{good}; {other}", 0), (f"{good} ;{other}", 0),
                (f"{good} ;; {other}", 0)):
            self.refused(NoText, {"at": at}, desk, "yard " + text)

    def test_eight_engines(self):
        desk = Desk()
        self.says(desk, ("yard " + " ; ".join(f"{10 * at} 0 n f s0" for at in range(8)), "8 engines"))


class Refused(Case):
    def test_as_the_ground(self):
        desk = desk_with(COLUMN)
        for number in (3, 8, MOST):
            for row in (f"away {number}", f"turn {number}", f"paint {number} 99 0", f"swap {number} 99", f"swap 0 {number}",
                        f"road {number} 0"):
                self.refused(NoNumber, {"number": number}, desk, row)
        self.refused(NoRail, {"number": 0, "place": 2}, desk, "paint 0 2 0")
        self.refused(NoYard, {"word": "met", "number": 3}, desk, "down 0 0 n f s0")
        self.refused(Full, {"most": 5000}, desk, "go 5001")
        desk.say("go 4990")
        self.refused(Full, {"most": 5000}, desk, "go 11")
        desk.say("go 10")
        desk.say("back")
        self.says(desk, ("go 0", "0 met"))
        self.refused(Full, {"most": 5000}, desk, "go 11")

    def test_numbers_on_the_empty_ground(self):
        desk = Desk()
        for row in ("away 0", "turn 0", "paint 0 0 0", "swap 0 0", "road 0 0"):
            self.refused(NoNumber, {"number": 0}, desk, row)

    def test_own_way(self):
        desk = desk_with((WHEEL, (50, 50) + OWN_WAY[2:]))
        for row in ("meet", "far 0", f"far {MOST}", "fate"):
            self.refused(OwnWay, {"number": 1}, desk, row)

    def test_far_by_most_2000(self):
        desk = desk_with(NARROW)
        turns = sorted({row[0] for row in beats(NARROW, 5000)[1]})
        self.assertGreater(len(turns), 2000)
        last = turns[2000] - 1
        self.says(desk, (f"far {last}", as_row(beats(NARROW, last)[0])))
        self.refused(TooMany, {"most": 2000}, desk, f"far {last + 1}")
        self.refused(TooMany, {"most": 2000}, desk, f"far {MOST}")

    def test_fate_by_most_2000(self):
        # No round of so many meetings is known, so it is looked at what the function is asked.
        from unittest.mock import patch

        from ownrail import desk as desk_module
        desk = desk_with(NARROW[:2])
        with patch.object(desk_module, "fate_of", side_effect=TooMany(2000)) as asked:
            self.refused(TooMany, {"most": 2000}, desk, "fate")
        asked.assert_called_once_with(NARROW[:2], most=2000)

    def test_a_yard_that_went_beyond_the_bound(self):
        desk = desk_with((engine_of(FAR, 0, 1, 1, "s", 6),))
        self.says(desk, ("go 5", "0 met"), ("show", f"{FAR + 5} 0 e f s6"), (f"seen {FAR + 5} 0", "6"),
                  ("away 0", f"{FAR + 5} 0 e f s6"), ("back", "back"), ("down 0 0 n f s0", "number 1"))
        self.refused(NoText, {"at": 0}, desk, f"down {FAR + 5} 0 e f s6")
        self.refused(NoText, {"at": 0}, desk, f"yard {FAR + 5} 0 e f s6")


class Kept(Case):
    def test_desks_share_nothing(self):
        one, other = Desk(), Desk()
        one.say(TWO)
        one.say("turn 0")
        self.assertEqual((other.say("show"), len(other)), ("none", 0))
        self.assertEqual((one.say("show"), len(one)), ("0 0 n b s1 ; 0 9 s f s2", 1))

    def test_long_texts(self):
        yard = tuple((FAR - at, -FAR + 20 * at, 1, -1, tuple(("s", 9) for rail in range(12))) for at in range(8))
        self.says(Desk(), ("yard " + as_row(yard), "8 engines"))
        self.assertEqual(desk_with(yard).say("away 7"), show_engine(yard[7]))

    def test_names_of_the_arguments(self):
        self.assertEqual(str(inspect.signature(Desk)), "()")
        self.assertEqual(str(inspect.signature(Desk.say)), "(self, row)")
        self.assertIn("say", vars(Desk))
        self.assertIn("__len__", vars(Desk))
        self.assertEqual(Desk().say(row="show"), "none")


if __name__ == "__main__":
    unittest.main()
