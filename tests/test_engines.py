"""Point [6]: squares, the wanted square, gone on, turned by hand, painted."""

import copy
import inspect
import unittest

from ownrail import engines
from ownrail.engines import gone_on, look_engine, painted, squares_of, turned_by_hand, wanted_square
from ownrail.errors import NoEngine
from samples import FAR, LOOKS, SHAPES, WAYS, gone_by, long_engines, rails_of, short_engines, walked

# Free at first; gone forward by 3 its places 3 and 7 have one square.
OVER_ITSELF = (0, 0, 0, 1, rails_of("rrssr"))


def all_engines():
    yield from short_engines(4)
    yield from long_engines()


class ByHand(unittest.TestCase):
    BENT = (4, -2, 0, 1, (("s", 0), ("l", 3), ("r", 1)))
    BENT_BACK = (4, -2, 0, -1, (("s", 0), ("l", 3), ("r", 1)))

    def test_squares(self):
        self.assertEqual(squares_of(self.BENT), ((4, -2), (4, -1), (3, -1)))
        self.assertEqual(squares_of(self.BENT_BACK), ((4, -2), (4, -1), (3, -1)))
        self.assertEqual(squares_of((7, 8, 2, 1, (("r", 5),))), ((7, 8),))

    def test_wanted_square(self):
        self.assertEqual(wanted_square(self.BENT), (3, 0))
        self.assertEqual(wanted_square(self.BENT_BACK), (4, -3))

    def test_gone_on(self):
        self.assertEqual(gone_on(self.BENT), (4, -1, 0, 1, (("l", 3), ("r", 1), ("s", 0))))
        self.assertEqual(gone_on(self.BENT_BACK), (4, -3, 3, -1, (("r", 1), ("s", 0), ("l", 3))))

    def test_one_rail_alone(self):
        forward = {
            (0, "l"): (-1, 0, 3), (0, "s"): (0, 1, 0), (0, "r"): (1, 0, 1),
            (1, "l"): (0, 1, 0), (1, "s"): (1, 0, 1), (1, "r"): (0, -1, 2),
            (2, "l"): (1, 0, 1), (2, "s"): (0, -1, 2), (2, "r"): (-1, 0, 3),
            (3, "l"): (0, -1, 2), (3, "s"): (-1, 0, 3), (3, "r"): (0, 1, 0),
        }
        back = {
            (0, "l"): (0, -1, 1), (0, "s"): (0, -1, 0), (0, "r"): (0, -1, 3),
            (1, "l"): (-1, 0, 2), (1, "s"): (-1, 0, 1), (1, "r"): (-1, 0, 0),
            (2, "l"): (0, 1, 3), (2, "s"): (0, 1, 2), (2, "r"): (0, 1, 1),
            (3, "l"): (1, 0, 0), (3, "s"): (1, 0, 3), (3, "r"): (1, 0, 2),
        }
        for look, told in ((1, forward), (-1, back)):
            for (way, shape), (x, y, next_way) in told.items():
                engine = (0, 0, way, look, ((shape, 6),))
                self.assertEqual(gone_on(engine), (x, y, next_way, look, ((shape, 6),)))
                self.assertEqual(wanted_square(engine), (x, y))

    def test_turned_by_hand(self):
        self.assertEqual(turned_by_hand(self.BENT), self.BENT_BACK)
        self.assertEqual(turned_by_hand(self.BENT_BACK), self.BENT)

    def test_painted(self):
        self.assertEqual(painted(self.BENT, 0, 9), (4, -2, 0, 1, (("s", 9), ("l", 3), ("r", 1))))
        self.assertEqual(painted(self.BENT, 1, 0), (4, -2, 0, 1, (("s", 0), ("l", 0), ("r", 1))))
        self.assertEqual(painted(self.BENT_BACK, 2, 7), (4, -2, 0, -1, (("s", 0), ("l", 3), ("r", 7))))

    def test_beyond_the_bound(self):
        engine = (FAR, -FAR, 1, 1, rails_of("ss"))
        self.assertEqual(squares_of(engine), ((FAR, -FAR), (FAR + 1, -FAR)))
        self.assertEqual(wanted_square(engine), (FAR + 2, -FAR))
        gone = gone_on(engine)
        self.assertEqual(gone[:2], (FAR + 1, -FAR))
        self.assertEqual(gone_on(gone)[:2], (FAR + 2, -FAR))
        with self.assertRaises(NoEngine) as caught:
            look_engine(gone)
        self.assertEqual(caught.exception.word, "far")


class AgainstTheRoad(unittest.TestCase):
    def test_squares(self):
        for engine in all_engines():
            many = len(engine[4])
            road = walked(engine, 0, many - 1)
            self.assertEqual(squares_of(engine), tuple(road[at][0] for at in range(many)), engine)

    def test_wanted_square(self):
        for engine in all_engines():
            many = len(engine[4])
            road = walked(engine, -1, many)
            self.assertEqual(wanted_square(engine), road[many if engine[3] == 1 else -1][0], engine)

    def test_gone_on_by_one(self):
        for engine in all_engines():
            self.assertEqual(gone_on(engine), gone_by(engine, engine[3]), engine)

    def test_gone_on_by_many(self):
        for engine in list(short_engines(3)) + [OVER_ITSELF, turned_by_hand(OVER_ITSELF)]:
            gone = engine
            for k in range(1, 14):
                gone = gone_on(gone)
                self.assertEqual(gone, gone_by(engine, k * engine[3]), (engine, k))

    def test_going_forward_from_what_was_laid_back(self):
        for engine in all_engines():
            if engine[3] == -1:
                laid = gone_on(engine)
                self.assertEqual(squares_of(laid)[0], wanted_square(engine))
                self.assertEqual(gone_on(turned_by_hand(laid))[:3], engine[:3])


class Again(unittest.TestCase):
    def test_gone_on_turned_gone_on_turned_is_the_engine(self):
        for engine in all_engines():
            back = turned_by_hand(gone_on(turned_by_hand(gone_on(engine))))
            self.assertEqual(back, engine)

    def test_turned_by_hand(self):
        for engine in all_engines():
            x, y, way, look, rails = engine
            self.assertEqual(turned_by_hand(engine), (x, y, way, -look, rails))
            self.assertEqual(turned_by_hand(turned_by_hand(engine)), engine)

    def test_painted_at_each_place(self):
        for shapes in ("l", "sr", "lrs", "s" * 12):
            for way in WAYS:
                for look in LOOKS:
                    engine = (1, -1, way, look, rails_of(shapes))
                    self.check_painted(engine)

    def check_painted(self, engine):
        for place in range(len(engine[4])):
            for colour in range(10):
                told = painted(engine, place, colour)
                rails = list(engine[4])
                rails[place] = (rails[place][0], colour)
                self.assertEqual(told, engine[:4] + (tuple(rails),))

    def test_painted_alike_is_the_engine(self):
        for engine in long_engines():
            for place, (shape, colour) in enumerate(engine[4]):
                self.assertEqual(painted(engine, place, colour), engine)


class OverItself(unittest.TestCase):
    def test_two_rails_on_one_square(self):
        self.assertIs(look_engine(OVER_ITSELF), True)
        gone = OVER_ITSELF
        for k in range(1, 4):
            gone = gone_on(gone)
        squares = squares_of(gone)
        self.assertEqual(len(squares), 5)
        self.assertEqual(squares[0], squares[4])
        self.assertEqual(gone, (1, -2, 2, 1, (("s", 6), ("r", 7), ("r", 3), ("r", 4), ("s", 5))))
        with self.assertRaises(NoEngine) as caught:
            look_engine(gone)
        self.assertEqual(caught.exception.word, "twice")

    def test_what_is_told_of_it(self):
        gone = OVER_ITSELF
        for k in range(3):
            gone = gone_on(gone)
        self.assertEqual(squares_of(gone), ((1, -2), (1, -3), (0, -3), (0, -2), (1, -2)))
        self.assertEqual(wanted_square(gone), (2, -2))
        self.assertEqual(gone_on(gone), (1, -3, 2, 1, (("r", 7), ("r", 3), ("r", 4), ("s", 5), ("s", 6))))
        turned = turned_by_hand(gone)
        self.assertEqual(turned, gone[:3] + (-1,) + gone[4:])
        self.assertEqual(wanted_square(turned), (1, -1))
        self.assertEqual(painted(gone, 4, 0)[4][4], ("s", 0))
        self.assertEqual(painted(gone, 4, 0)[4][0], ("s", 6))

    def test_wanted_square_is_its_own(self):
        ring = (0, 0, 0, 1, rails_of("rrrrs"[:4]))
        self.assertEqual(wanted_square(ring), (0, 0))
        self.assertEqual(gone_on(ring), (1, 0, 1, 1, ring[4][1:] + ring[4][:1]))


class Kept(unittest.TestCase):
    def test_what_was_handed_in_is_as_it_was(self):
        for engine in list(short_engines(2)) + list(long_engines()):
            copied = copy.deepcopy(engine)
            squares_of(engine), wanted_square(engine), gone_on(engine)
            turned_by_hand(engine), painted(engine, 0, 1), look_engine(engine)
            self.assertEqual(engine, copied)

    def test_asked_again_is_told_the_same(self):
        engine, other = (0, 0, 1, -1, rails_of("srl")), (3, 3, 2, 1, rails_of("ll"))
        for ask in (squares_of, wanted_square, gone_on, turned_by_hand):
            told = ask(engine)
            ask(other)
            self.assertEqual(ask(engine), told)

    def test_tuples_are_told(self):
        for engine in all_engines():
            for told in (gone_on(engine), turned_by_hand(engine), painted(engine, 0, 0)):
                self.assertEqual([type(part) for part in told], [int, int, int, int, tuple])
                self.assertEqual({type(rail) for rail in told[4]}, {tuple})
            self.assertIs(type(squares_of(engine)), tuple)
            self.assertEqual({type(square) for square in squares_of(engine)}, {tuple})
            self.assertIs(type(wanted_square(engine)), tuple)

    def test_names_of_the_arguments(self):
        for name in ("squares_of", "wanted_square", "gone_on", "turned_by_hand"):
            self.assertEqual(str(inspect.signature(getattr(engines, name))), "(engine)", name)
        self.assertEqual(str(inspect.signature(painted)), "(engine, place, colour)")
        self.assertEqual(str(inspect.signature(look_engine)), "(thing)")
        engine = (0, 0, 0, 1, (("s", 0),))
        self.assertEqual(squares_of(engine=engine), ((0, 0),))
        self.assertEqual(painted(colour=4, place=0, engine=engine), (0, 0, 0, 1, (("s", 4),)))


class Samples(unittest.TestCase):
    """The samples cover what the tests above mean to cover."""

    def test_every_number_of_rails_and_every_shape(self):
        rails = [engine[4] for engine in all_engines()]
        self.assertEqual({len(row) for row in rails}, set(range(1, 13)))
        self.assertEqual({shape for row in rails for shape, colour in row}, set(SHAPES))


if __name__ == "__main__":
    unittest.main()
