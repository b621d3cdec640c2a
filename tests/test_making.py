"""[17] Games made for a pair of mixes; facts M1 and M2."""

import unittest
from fractions import Fraction
from random import Random

from steadymixes.blocks import blocks
from steadymixes.corners import is_corner
from steadymixes.errors import InvalidMix, InvalidNumber
from steadymixes.games import is_game
from steadymixes.islands import island_signs
from steadymixes.making import can_be_only, game_with, game_with_only, only_pair
from steadymixes.steady import is_steady
from tests.calls import refused
from tests.judges import all_blocks, lot_of, part, parts, same, size, steady, steady_corners
from tests.samples import (ALIKE, CLEAR, GAME, IDLE, LARGE, MANY_BLOCKS, OBLONG, ONE_COLUMN, ONE_FIELD, ONE_ROW,
                           ORDERED, PENNIES, ROCK, SMALL, STEPS, TWOFOLD, clear_games, drawn_games, filled,
                           games_of_two)

MOST_BELOW = 12


def all_sums(total, least, many):
    """All ascending lists of so many fractions, none below a least one, with at most 12 below, that come to a sum."""
    if many == 1:
        return [[total]] if total >= least and total.denominator <= MOST_BELOW else []
    found = []
    for number in sorted({Fraction(above, below) for below in range(1, MOST_BELOW + 1) for above in range(1, below)}):
        if least <= number and number * many <= total:
            found += [[number, *rest] for rest in all_sums(total - number, number, many - 1)]
    return found


SUMS = {many: all_sums(Fraction(1), Fraction(1, MOST_BELOW), many) for many in range(1, 6)}


def mix_with(draw, lot, chances, many):
    """A mix of so many choices, in which those of a lot have these chances in a drawn sequence."""
    mix = [(0, 1)] * many
    for choice, chance in zip(lot, draw.sample(chances, len(chances))):
        mix[choice] = part(chance)
    return tuple(mix)


def drawn_with(draw, many, length):
    """A mix of so many choices with a lot of such a length, whose fractions have at most 12 below."""
    return mix_with(draw, sorted(draw.sample(range(many), length)), draw.choice(SUMS[length]), many)


class Example(unittest.TestCase):
    def test_the_document_s_own(self):
        one, other = ((1, 3), (2, 3), (0, 1)), ((1, 2), (1, 2))
        self.assertIs(can_be_only(3, 2, one, other), True)
        self.assertIs(can_be_only(3, 2, one, ((1, 1), (0, 1))), False)
        self.assertEqual(only_pair(game_with_only(3, 2, one, other)), (one, other))
        self.assertIsNone(only_pair((((3, 0), (0, 2)), ((2, 0), (0, 3)))))


class Made(unittest.TestCase):
    def check(self, rows, columns, one, other, judged=True):
        """A game is made just for lots of as many choices, and then one of this shape that has just this pair."""
        alike = len(lot_of(one)) == len(lot_of(other))
        self.assertIs(can_be_only(rows, columns, one, other), alike)
        made = game_with_only(rows, columns, one, other)
        if not alike:
            self.assertIsNone(made)
            return
        self.assertIs(is_game(made), True)
        self.assertEqual((size(made, 0), size(made, 1)), (rows, columns))
        self.assertTrue(same(only_pair(made), (one, other)), (one, other))
        self.assertEqual(blocks(made), [((one,), (other,))])
        if judged:
            self.assertEqual(steady_corners(made), [(one, other)])

    def test_every_shape_and_every_two_numbers_of_choices(self):
        draw = Random(401)
        for rows in range(1, 6):
            for columns in range(1, 6):
                for first in range(1, rows + 1):
                    for second in range(1, columns + 1):
                        one, other = drawn_with(draw, rows, first), drawn_with(draw, columns, second)
                        self.check(rows, columns, one, other, judged=rows + columns < 8)

    def test_whatever_fractions_with_at_most_12_below(self):
        draw = Random(402)
        self.assertEqual([len(SUMS[many]) for many in (1, 2)], [1, 23])
        self.assertGreater(len(SUMS[5]), 50)
        for many, sums in SUMS.items():
            for chances in sums:
                for turn in range(2):
                    shape = draw.randint(many, 5), draw.randint(many, 5)
                    mixes = [mix_with(draw, sorted(draw.sample(range(shape[0]), many)), chances, shape[0]),
                             drawn_with(draw, shape[1], many)]
                    if turn:
                        shape, mixes = shape[::-1], mixes[::-1]
                    self.check(*shape, *mixes, judged=False)

    def test_large_ones_as_the_judges_tell(self):
        draw = Random(403)
        for shape in ((5, 5), (4, 5), (5, 4), (3, 5)):
            for many in range(2, min(shape) + 1):
                self.check(*shape, drawn_with(draw, shape[0], many), drawn_with(draw, shape[1], many))

    def test_edges(self):
        self.check(1, 1, ((1, 1),), ((1, 1),))
        self.check(5, 1, parts(0, 0, 1, 0, 0), ((1, 1),))
        self.check(1, 5, ((1, 1),), parts(0, 0, 0, 0, 1))
        self.check(5, 1, parts(1, 1, 1, 1, 1), ((1, 1),))
        self.check(2, 2, ((1, 12), (11, 12)), ((11, 12), (1, 12)))
        self.check(5, 5, ((1, 12), (1, 10), (1, 10), (3, 10), (5, 12)), ((1, 11), (2, 11), (1, 11), (2, 11), (5, 11)))
        self.check(5, 5, ((1, 12), (1, 5), (3, 10), (0, 1), (5, 12)), ((0, 1), (5, 12), (3, 10), (1, 5), (1, 12)))

    def test_somewhat_more_below_is_no_error(self):
        for one, other in ((parts(1, 12), parts(5, 8)), (parts(1, 16), parts(8, 11)), (parts(999, 1000), parts(1, 18))):
            self.check(2, 2, one, other)
            self.assertEqual(only_pair(game_with(2, 2, one, other)), None)
        far = parts(10 ** 9, 10 ** 9 + 7)
        self.assertIs(can_be_only(2, 2, far, parts(1, 1)), True)
        game_with_only(2, 2, far, parts(1, 1))

    def test_no_only_pair_has_lots_of_unlike_lengths(self):
        seen = 0
        for game in games_of_two((0, 1)) + games_of_two((0, 1, 2))[::17] + drawn_games(150, 404, bounds=(0, 1, 2, 9)):
            pair = only_pair(game)
            if pair is not None:
                self.assertEqual(len(lot_of(pair[0])), len(lot_of(pair[1])))
                seen += 1
        self.assertGreater(seen, 60)


class GameWith(unittest.TestCase):
    def test_the_pair_is_one_of_its_steady_ones(self):
        draw = Random(405)
        for rows in range(1, 6):
            for columns in range(1, 6):
                for first in range(1, rows + 1):
                    for second in range(1, columns + 1):
                        one, other = drawn_with(draw, rows, first), drawn_with(draw, columns, second)
                        made = game_with(rows, columns, one, other)
                        self.assertIs(is_game(made), True)
                        self.assertEqual((size(made, 0), size(made, 1)), (rows, columns))
                        self.assertTrue(steady(made, one, other))
                        self.assertIs(is_steady(made, one, other), True)


class OnlyPair(unittest.TestCase):
    def test_known_ones(self):
        half = ((1, 2), (1, 2))
        self.assertEqual(only_pair(PENNIES), (half, half))
        self.assertEqual(only_pair(ROCK), (parts(1, 1, 1), parts(1, 1, 1)))
        self.assertEqual(only_pair(ONE_FIELD), (((1, 1),), ((1, 1),)))
        for game in (GAME, ALIKE, CLEAR, OBLONG, IDLE, ORDERED, TWOFOLD, MANY_BLOCKS, ONE_ROW, ONE_COLUMN,
                     filled(2, 1, 0), filled(5, 5, -1000)):
            self.assertIsNone(only_pair(game))
        # One block of a single one and several others, and two single pairs of corners that hang in no block.
        self.assertIsNone(only_pair((((1, 1), (0, 0)), ((0, 0), (0, 0)))))
        self.assertIsNone(only_pair((((1, 0), (0, 0)), ((1, 0), (0, 0)))))

    def test_it_is_told_just_of_games_with_one(self):
        found = {True: 0, False: 0}
        for game in SMALL + LARGE + drawn_games(120, 406, bounds=(0, 1, 3, 9, 1000)) + clear_games(60, 212, most=3):
            told, right = only_pair(game), all_blocks(game) if len(steady_corners(game)) < 9 else []
            alone = len(right) == 1 and [len(mixes) for mixes in right[0]] == [1, 1]
            self.assertTrue(same(told, (right[0][0][0], right[0][1][0]) if alone else None))
            found[alone] += 1
        self.assertGreater(min(found.values()), 40)

    def test_it_has_corners_alone_and_its_island_the_sign_one(self):
        seen = 0
        for game in SMALL + [STEPS] + drawn_games(120, 407, bounds=(0, 1, 3, 9, 1000)):
            pair = only_pair(game)
            if pair is not None:
                self.assertTrue(all(is_corner(game, side, pair[side]) for side in (0, 1)))
                self.assertEqual(island_signs(game), [1])
                seen += 1
        self.assertGreater(seen, 40)


class Refused(unittest.TestCase):
    def test_numbers_out_of_one_to_five(self):
        one, other = ((1, 2), (1, 2)), parts(1, 1, 1)
        for function in (can_be_only, game_with_only, game_with):
            for number in (0, 6, -1, 7, 10 ** 50):
                for arguments in ([number, 3, one, other], [number, 0, None, None], [number, 9, one, other]):
                    error = refused(function, arguments)
                    self.assertIs(type(error), InvalidNumber)
                    self.assertEqual(error.value, number)
                error = refused(function, [2, number, None, other])
                self.assertIs(type(error), InvalidNumber)
                self.assertEqual(error.value, number)

    def test_mixes_of_another_number_of_choices(self):
        one, other = ((1, 2), (1, 2)), parts(1, 1, 1)
        for function in (can_be_only, game_with_only, game_with):
            for rows, columns, value in ((3, 3, one), (1, 3, one), (2, 2, other), (2, 4, other), (3, 2, one)):
                error = refused(function, [rows, columns, one, other])
                self.assertIs(type(error), InvalidMix)
                self.assertEqual(error.value, value)
            for wrong in (((0, 1), (0, 1)), ((1, 1), (1, 1)), ((2, 4), (1, 2)), ((3, 2), (-1, 2)), [(1, 2), (1, 2)]):
                error = refused(function, [2, 3, wrong, None])
                self.assertIs(type(error), InvalidMix)
                self.assertTrue(same(error.value, wrong))


if __name__ == "__main__":
    unittest.main()
