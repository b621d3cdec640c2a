"""[35] Fractions, mixes, games and blocks as texts."""

import unittest
from random import Random

from steadymixes.blocks import blocks
from steadymixes.texts import show_blocks, show_fraction, show_game, show_mix
from tests.judges import part, parts
from tests.samples import (ALIKE, CLEAR, GAME, IDLE, LARGE, LONG, MANY_BLOCKS, NEAR_HALF, OBLONG, ONE_COLUMN, ONE_FIELD,
                           ONE_ROW, ROCK, SMALL, drawn_games, drawn_mix, every_shape, long_mix)


def text_of(fraction):
    above, below = fraction
    return f"{above}" if below == 1 else f"{above}/{below}"


def joined(mixes):
    return " , ".join(" ".join(text_of(chance) for chance in mix) for mix in mixes)


class Example(unittest.TestCase):
    def test_the_document_s_own(self):
        game = (((3, 0), (0, 2)), ((2, 0), (0, 3)))
        self.assertEqual(show_game(game), "3,2 0,0 ; 0,0 2,3")
        self.assertEqual(show_mix(((3, 5), (2, 5))), "3/5 2/5")
        self.assertEqual(show_blocks(game, [((((3, 5), (2, 5)),), (((2, 5), (3, 5)),))]), "3/5 2/5 x 2/5 3/5")


class Fractions(unittest.TestCase):
    def test_known_ones(self):
        for fraction, text in (((0, 1), "0"), ((1, 1), "1"), ((-1, 1), "-1"), ((1, 2), "1/2"), ((-1, 2), "-1/2"),
                               ((7, 3), "7/3"), ((1000, 1), "1000"), ((-12, 35), "-12/35"), ((10, 11), "10/11")):
            self.assertEqual(show_fraction(fraction), text)
            self.assertEqual(show_fraction(fraction=fraction), text)

    def test_long_ones(self):
        self.assertEqual(show_fraction((10 ** 299, 1)), "1" + "0" * 299)
        self.assertEqual(show_fraction((1, 10 ** 299)), "1/1" + "0" * 299)
        self.assertEqual(show_fraction((-LONG, 10 ** 299)), f"-{LONG}/1" + "0" * 299)


class Mixes(unittest.TestCase):
    def test_known_ones(self):
        for mix, text in ((((1, 1),), "1"), (((0, 1), (1, 1)), "0 1"), (parts(1, 2, 0), "1/3 2/3 0"),
                          (parts(1, 1, 1, 1, 1), "1/5 1/5 1/5 1/5 1/5"), (parts(0, 0, 0, 0, 1), "0 0 0 0 1"),
                          (NEAR_HALF, f"{LONG // 2}/{LONG} {LONG - LONG // 2}/{LONG}")):
            self.assertEqual(show_mix(mix), text)

    def test_drawn_ones(self):
        draw = Random(801)
        for many in range(1, 6):
            for mix in [drawn_mix(draw, many) for _ in range(20)] + [long_mix(draw, many)]:
                self.assertEqual(show_mix(mix), " ".join(text_of(chance) for chance in mix))


class Games(unittest.TestCase):
    def test_known_ones(self):
        self.assertEqual(show_game(ONE_FIELD), "-1000,1000")
        self.assertEqual(show_game(ONE_ROW), "4,3 -7,9 0,-1000 4,9 1000,9")
        self.assertEqual(show_game(ONE_COLUMN), "3,4 ; 9,-7 ; -1000,0 ; 9,4 ; 9,1000")
        self.assertEqual(show_game(OBLONG), "5,0 0,3 2,1 ; 1,2 4,-1 2,1")

    def test_all_shapes(self):
        for game in SMALL + LARGE + every_shape(802, 1000) + drawn_games(20, 803):
            first, second = game
            rows = [" ".join(f"{a},{b}" for a, b in zip(*row)) for row in zip(first, second)]
            self.assertEqual(show_game(game), " ; ".join(rows))


class Blocks(unittest.TestCase):
    def test_none(self):
        for game in (GAME, ONE_FIELD, ROCK):
            self.assertEqual(show_blocks(game, []), "-")

    def test_known_ones(self):
        self.assertEqual(show_blocks(ALIKE, blocks(ALIKE)), "0 1 , 1 0 x 1 0 ; 1 0 x 0 1 , 1 0")
        self.assertEqual(show_blocks(ONE_FIELD, blocks(ONE_FIELD)), "1 x 1")
        self.assertEqual(show_blocks(GAME, blocks(GAME)), "0 1 x 0 1 ; 3/5 2/5 x 2/5 3/5 ; 1 0 x 1 0")
        self.assertEqual(show_blocks(ONE_ROW, blocks(ONE_ROW)), "1 x 0 0 0 0 1 , 0 0 0 1 0 , 0 1 0 0 0")
        self.assertEqual(show_blocks(GAME, blocks(GAME)[2:]), "1 0 x 1 0")
        self.assertEqual(show_blocks(game=IDLE, blocks=blocks(IDLE)), "0 1 x 0 1 ; 1 0 x 1 0")

    def test_many_games(self):
        for game in SMALL + LARGE + [CLEAR, MANY_BLOCKS] + drawn_games(40, 804):
            told = blocks(game)
            text = " ; ".join(f"{joined(ones)} x {joined(others)}" for ones, others in told)
            self.assertEqual(show_blocks(game, told), text)
            self.assertEqual(show_blocks(game, told[::-1]), " ; ".join(text.split(" ; ")[::-1]))
            self.assertEqual(told, blocks(game))

    def test_long_ones(self):
        mix, other = NEAR_HALF, (part(1, LONG), part(LONG - 1, LONG))
        self.assertEqual(show_blocks(GAME, [((mix,), (other, mix))]), f"{joined([mix])} x {joined([other, mix])}")


if __name__ == "__main__":
    unittest.main()
