"""[7], [13] Blocks, their pairs, islands and what sides get by them; facts B1 and B2."""

import unittest
from fractions import Fraction
from random import Random

from steadymixes.blocks import block_weights, blocks, blocks_of, gets_of, islands, steady_corners
from steadymixes.corners import is_corner
from steadymixes.errors import InvalidNumber, NotSteady
from steadymixes.games import gets, turned
from steadymixes.steady import is_steady, pure, some_steady
from tests.calls import refused
from tests.judges import (all_blocks, all_corners, good_chances, got, hanging, in_block, mean, part, parts, same,
                          size, steady, worth, worths, worths_in)
from tests.judges import steady_corners as right_corners
from tests.samples import (ALIKE, CLEAR, FINE, FINE_TIED, FULL, GAME, IDLE, LARGE, LONG, MANY_BLOCKS, OBLONG,
                           ONE_COLUMN, ONE_FIELD, ONE_ROW, ORDERED, PENNIES, ROCK, SMALL, STEPS, TWOFOLD,
                           drawn_games, drawn_pair, every_shape, filled, games_of_two, like_rows, long_mix, means)

FIRST, SECOND, HALF = ((1, 1), (0, 1)), ((0, 1), (1, 1)), ((1, 2), (1, 2))
TIED = [ALIKE, OBLONG, IDLE, ONE_ROW, ONE_COLUMN, TWOFOLD, MANY_BLOCKS, FINE_TIED,
        filled(1, 5, 3), filled(5, 1, -3), filled(3, 3, 0), filled(5, 5, 0), like_rows((1, 0, 1), (0, 1, 1), 4)]


def plain(many):
    """All mixes of one choice, ascending."""
    return tuple(parts(*[1 if at == choice else 0 for at in range(many)]) for choice in reversed(range(many)))


class Example(unittest.TestCase):
    def test_the_document_s_own(self):
        alike = (((1, 1), (1, 0)), ((1, 1), (1, 0)))
        self.assertEqual(blocks(alike), [
            ((((0, 1), (1, 1)), ((1, 1), (0, 1))), (((1, 1), (0, 1)),)),
            ((((1, 1), (0, 1)),), (((0, 1), (1, 1)), ((1, 1), (0, 1))))])
        self.assertEqual(islands(alike), [[0, 1]])
        self.assertEqual(blocks_of(alike, ((1, 2), (1, 2)), ((1, 1), (0, 1))), (0,))
        self.assertEqual(gets_of(alike, 0), (((1, 1), (1, 1)), ((1, 1), (1, 1))))


class SteadyCorners(unittest.TestCase):
    def test_known_ones(self):
        self.assertEqual(steady_corners(GAME), [
            (SECOND, SECOND), (((3, 5), (2, 5)), ((2, 5), (3, 5))), (FIRST, FIRST)])
        self.assertEqual(steady_corners(ALIKE), [(SECOND, FIRST), (FIRST, SECOND), (FIRST, FIRST)])
        self.assertEqual(steady_corners(PENNIES), [(HALF, HALF)])
        self.assertEqual(steady_corners(ONE_FIELD), [(((1, 1),), ((1, 1),))])
        self.assertEqual(steady_corners(ONE_ROW), [(((1, 1),), mix) for mix in (plain(5)[0], plain(5)[1], plain(5)[3])])
        self.assertEqual(len(steady_corners(filled(5, 4, 7))), 20)

    def test_ascending_is_by_worth(self):
        # By tuples (1, 2) would stand before (2, 5), and both behind (1, 10).
        told = steady_corners(FINE)
        self.assertEqual(worths_in(told), sorted(worths_in(told)))
        self.assertNotEqual(told, sorted(told))

    def test_many_games(self):
        for game in SMALL + LARGE + TIED + [CLEAR, ORDERED, FINE] + drawn_games(30, 101):
            told = steady_corners(game)
            self.assertTrue(same(told, right_corners(game)))
            self.assertTrue(all(is_corner(game, 0, one) and is_corner(game, 1, other) for one, other in told))


class Blocks(unittest.TestCase):
    def check(self, game):
        """Each word of what is said of blocks, and none left out."""
        told = blocks(game)
        self.assertIs(type(told), list)
        corners = all_corners(game, 0), all_corners(game, 1)
        pairs = set(right_corners(game))
        for block in told:
            self.assertEqual((type(block), len(block)), (tuple, 2))
            for side, mixes in enumerate(block):
                self.assertIs(type(mixes), tuple)
                self.assertTrue(mixes and all(mix in corners[side] for mix in mixes))
                self.assertTrue(all(worths(a) < worths(b) for a, b in zip(mixes, mixes[1:])))
            ones, others = block
            self.assertTrue(all((one, other) in pairs for one in ones for other in others))
            self.assertEqual([one for one in corners[0] if all((one, other) in pairs for other in others)], list(ones))
            self.assertEqual([other for other in corners[1] if all((one, other) in pairs for one in ones)],
                             list(others))
        order = worths_in(told)
        self.assertTrue(all(a < b for a, b in zip(order, order[1:])))
        for a in told:
            for b in told:
                self.assertFalse(a != b and all(set(mine) <= set(theirs) for mine, theirs in zip(a, b)))
        within = {(one, other) for ones, others in told for one in ones for other in others}
        self.assertEqual(within, pairs)
        return told

    def test_known_ones(self):
        self.assertEqual(blocks(GAME), [((one,), (other,)) for one, other in steady_corners(GAME)])
        self.assertEqual(blocks(IDLE), [((SECOND,), (SECOND,)), ((FIRST,), (FIRST,))])
        self.assertEqual(blocks(ONE_FIELD), [((((1, 1),),), (((1, 1),),))])
        self.assertEqual(blocks(ONE_ROW), [((((1, 1),),), (plain(5)[0], plain(5)[1], plain(5)[3]))])
        self.assertEqual(blocks(ONE_COLUMN), [((plain(5)[0], plain(5)[1], plain(5)[3]), (((1, 1),),))])
        self.assertEqual(blocks(OBLONG), [((HALF,), (plain(3)[0], parts(1, 1, 0)))])
        self.assertEqual(len(blocks(ORDERED)), 31)

    def test_games_of_one_number(self):
        for rows in range(1, 6):
            for columns in range(1, 6):
                self.assertEqual(blocks(filled(rows, columns, 0)), [(plain(rows), plain(columns))])
                self.assertEqual(blocks(filled(rows, columns, 1000, -1000)), [(plain(rows), plain(columns))])

    def test_doubled_choices(self):
        doubled = tuple(table + table[-1:] for table in GAME)
        last = plain(3)[:2]
        self.assertEqual(blocks(doubled), [
            (last, (SECOND,)),
            ((parts(3, 0, 2), parts(3, 2, 0)), (((2, 5), (3, 5)),)),
            ((plain(3)[2],), (FIRST,))])

    def test_each_word_of_them(self):
        for game in SMALL + LARGE + TIED + [CLEAR, ORDERED, FINE]:
            with self.subTest(game=game):
                self.check(game)

    def test_each_word_of_them_in_drawn_games(self):
        many = [len(self.check(game)) for game in drawn_games(50, 103, bounds=(0, 1, 1, 2)) + every_shape(104, 1)]
        self.assertGreater(max(many), 4)

    def test_none_is_left_out(self):
        for game in SMALL + LARGE + TIED + drawn_games(70, 105, most=4, bounds=(1, 1, 2)):
            self.assertTrue(same(blocks(game), all_blocks(game)), game)
        for game in games_of_two((0, 1)):
            self.assertTrue(same(blocks(game), all_blocks(game)), game)

    def test_with_the_sides_exchanged(self):
        for game in TIED + drawn_games(40, 106):
            told = {(others, ones) for ones, others in blocks(turned(game))}
            self.assertEqual(set(blocks(game)), told)

    def test_games_of_nothing_but_single_pairs(self):
        for game in (CLEAR, ORDERED, FINE, ROCK, STEPS):
            self.assertEqual(blocks(game), [((one,), (other,)) for one, other in steady_corners(game)])


def pairs_in(draw, block, many=3):
    """Pairs of a block, by drawn weights of its ones and others."""
    ones, others = block
    return list(zip(means(draw, ones, many), means(draw, others, many)))


class Pairs(unittest.TestCase):
    def test_each_mean_is_steady_and_told_of_its_blocks(self):
        draw = Random(107)
        for game in SMALL + LARGE + TIED + [FINE] + drawn_games(60, 108, bounds=(0, 1, 1, 2)):
            told = blocks(game)
            for index, block in enumerate(told):
                for one, other in pairs_in(draw, block):
                    self.assertTrue(steady(game, one, other))
                    found = blocks_of(game, one, other)
                    self.assertIs(type(found), tuple)
                    self.assertIn(index, found)
                    right = tuple(at for at, block in enumerate(told) if in_block(game, block, (one, other)))
                    self.assertEqual(found, right)

    def test_weights_tell_the_same(self):
        draw = Random(109)
        found = set()
        for game in SMALL[:9] + TIED + drawn_games(40, 110, bounds=(1, 1, 2)):
            told = blocks(game)
            pairs = [drawn_pair(draw, game)] + [pair for block in told[:6] for pair in pairs_in(draw, block, 1)]
            for one, other in pairs:
                holding = []
                for index, block in enumerate(told):
                    weights = block_weights(game, index, one, other)
                    if weights is not None:
                        self.check_weights(block, weights, (one, other))
                        holding.append(index)
                self.assertIs(bool(holding), is_steady(game, one, other))
                found.add(len(holding))
                if holding:
                    self.assertEqual(blocks_of(game, one, other), tuple(holding))
        self.assertLessEqual({0, 1, 2}, found)

    def check_weights(self, block, weights, pair):
        self.assertEqual((type(weights), len(weights)), (tuple, 2))
        for mixes, told, mix in zip(block, weights, pair):
            self.assertTrue(good_chances(told, len(mixes)))
            self.assertEqual(mean(mixes, told), worths(mix))

    def test_known_ones(self):
        self.assertEqual(blocks_of(ALIKE, FIRST, FIRST), (0, 1))
        self.assertEqual(blocks_of(ALIKE, FIRST, HALF), (1,))
        self.assertEqual(blocks_of(GAME, SECOND, SECOND), (0,))
        self.assertEqual(blocks_of(GAME, FIRST, FIRST), (2,))
        self.assertEqual(blocks_of(ONE_ROW, ((1, 1),), parts(0, 1, 0, 1, 1)), (0,))
        self.assertEqual(block_weights(ALIKE, 0, ((1, 3), (2, 3)), FIRST), (((2, 3), (1, 3)), ((1, 1),)))
        self.assertIsNone(block_weights(ALIKE, 1, ((1, 3), (2, 3)), FIRST))
        self.assertIsNone(block_weights(ALIKE, 0, FIRST, ((1, 3), (2, 3))))
        self.assertIsNone(block_weights(GAME, 1, FIRST, FIRST))
        self.assertEqual(block_weights(GAME, 2, FIRST, FIRST), (((1, 1),), ((1, 1),)))
        self.assertIsNone(block_weights(PENNIES, 0, FIRST, HALF))
        self.assertIsNone(block_weights(PENNIES, 0, HALF, FIRST))

    def test_long_fractions(self):
        draw = Random(111)
        for game in (filled(5, 5, 4), filled(1, 4, 2), filled(3, 3, 0), filled(4, 2, -9)):
            one, other = long_mix(draw, size(game, 0)), long_mix(draw, size(game, 1))
            self.assertEqual(blocks_of(game, one, other), (0,))
            self.check_weights(blocks(game)[0], block_weights(game, 0, one, other), (one, other))
        one = ((LONG - 1, LONG), (1, LONG))
        self.assertEqual(blocks_of(ALIKE, one, FIRST), (0,))
        self.assertIsNone(block_weights(ALIKE, 0, one, one))
        self.assertEqual(refused(blocks_of, [ALIKE, one, one]).value, (one, one))

    def test_a_pair_that_is_not_steady(self):
        draw = Random(112)
        seen = 0
        for game in SMALL + LARGE + drawn_games(40, 113):
            one, other = drawn_pair(draw, game)
            if not steady(game, one, other):
                seen += 1
                error = refused(blocks_of, [game, one, other])
                self.assertIs(type(error), NotSteady)
                self.assertEqual(error.value, (one, other))
        self.assertGreater(seen, 20)

    def test_steady_pairs_known_otherwise(self):
        for game in SMALL + LARGE + drawn_games(60, 114):
            self.assertTrue(blocks_of(game, *some_steady(game)))
            for row, column in pure(game):
                pair = [parts(*[1 if at == choice else 0 for at in range(size(game, side))])
                        for side, choice in enumerate((row, column))]
                self.assertTrue(blocks_of(game, *pair))


class Islands(unittest.TestCase):
    def test_known_ones(self):
        self.assertEqual(islands(GAME), [[0], [1], [2]])
        self.assertEqual(islands(IDLE), [[0], [1]])
        self.assertEqual(islands(filled(4, 5, 1)), [[0]])
        self.assertEqual(islands(TWOFOLD), [[0, 1, 2, 4], [3]])
        self.assertEqual(islands(MANY_BLOCKS), [[0, *range(2, 15)], [1]])
        self.assertEqual(islands(ORDERED), [[at] for at in range(31)])

    def test_blocks_that_meet_by_others_between_them(self):
        # The first and the third block have no corner in common, but the second one meets both.
        game = (((1, 1, 0), (0, 1, 1)), ((0, 0, 0), (0, 0, 0)))
        told = blocks(game)
        self.assertEqual(len(told), 3)
        self.assertEqual(islands(game), [[0, 1, 2]])
        self.assertIn(True, [not set(a[0]) & set(b[0]) or not set(a[1]) & set(b[1]) for a in told for b in told])

    def test_each_block_is_in_just_one(self):
        found = set()
        for game in SMALL + LARGE + TIED + drawn_games(150, 115, bounds=(1, 1, 2)) + every_shape(116, 1):
            told = islands(game)
            self.assertTrue(same(told, hanging(blocks(game))))
            self.assertEqual(sorted(index for island in told for index in island), list(range(len(blocks(game)))))
            found |= {len(told), *[10 * len(island) for island in told]}
        self.assertLessEqual({1, 2, 3, 10, 20, 30, 40}, found)

    def test_pairs_in_common_and_corners_in_common(self):
        draw = Random(117)
        for game in TIED + drawn_games(30, 118, bounds=(1, 1, 2)):
            told = blocks(game)
            for index, block in enumerate(told):
                for pair in pairs_in(draw, block, 2):
                    for other in blocks_of(game, *pair):
                        self.assertTrue(all(set(mine) & set(theirs) for mine, theirs in zip(block, told[other])))


class GetsOf(unittest.TestCase):
    def check(self, game, index, block):
        told = gets_of(game, index)
        self.assertEqual((type(told), len(told)), (tuple, 2))
        for side in (0, 1):
            numbers = [got(game, side, (one, other)) for one in block[0] for other in block[1]]
            expected = (part(min(numbers)), part(max(numbers)))
            self.assertTrue(same(told[side], expected))
        return told

    def test_the_ends_over_all_pairs(self):
        draw = Random(119)
        wide = 0
        for game in SMALL + LARGE + TIED + [FINE] + drawn_games(60, 120, bounds=(1, 1, 2, 9)):
            for index, block in enumerate(blocks(game)):
                told = self.check(game, index, block)
                wide += sum(least != greatest for least, greatest in told)
                for one, other in pairs_in(draw, block, 2):
                    for side, number in enumerate(gets(game, one, other)):
                        self.assertLessEqual(worth(told[side][0]), worth(number))
                        self.assertLessEqual(worth(number), worth(told[side][1]))
        self.assertGreater(wide, 20)

    def test_known_ones(self):
        self.assertEqual(gets_of(GAME, 1), (((6, 5), (6, 5)), ((6, 5), (6, 5))))
        self.assertEqual(gets_of(ONE_ROW, 0), (((-7, 1), (1000, 1)), ((9, 1), (9, 1))))
        self.assertEqual(gets_of(ONE_COLUMN, 0), (((9, 1), (9, 1)), ((-7, 1), (1000, 1))))
        self.assertEqual(gets_of(filled(3, 2, -5, 8), 0), (((-5, 1), (-5, 1)), ((8, 1), (8, 1))))

    def test_least_is_by_worth(self):
        # What the first side gets is from 1/3 to 1/2; as tuples these would stand the other way round.
        game = (((1, 0, 1, 0, 0), (0, 1, 0, 1, 0), (0, 0, 0, 0, 1)), ((0,) * 5,) * 3)
        found = [gets_of(game, index)[0] for index in range(len(blocks(game)))]
        self.assertIn(((1, 3), (1, 2)), found)
        self.assertTrue(all(Fraction(*least) <= Fraction(*greatest) for least, greatest in found))


class Indexes(unittest.TestCase):
    def test_below_nought_and_beyond_the_last(self):
        for game in SMALL + LARGE + [ORDERED, MANY_BLOCKS]:
            many = len(blocks(game))
            pair = some_steady(game)
            for index in (-1, -many, many, many + 1, 10 ** 30):
                for function, arguments in ((gets_of, [game, index]), (block_weights, [game, index, *pair])):
                    error = refused(function, arguments)
                    self.assertIs(type(error), InvalidNumber)
                    self.assertTrue(same(error.value, index))
            gets_of(game, many - 1)
            block_weights(game, many - 1, *pair)

    def test_each_index_tells_of_its_own_block(self):
        for index, (ones, others) in enumerate(blocks(ORDERED)):
            self.assertEqual(gets_of(ORDERED, index), tuple((told, told) for told in gets(ORDERED, ones[0], others[0])))
            self.assertEqual(block_weights(ORDERED, index, ones[0], others[0]), (((1, 1),), ((1, 1),)))
            self.assertEqual(blocks_of(ORDERED, ones[0], others[0]), (index,))


if __name__ == "__main__":
    unittest.main()
