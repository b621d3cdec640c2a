"""[14] Ties, and the signs of games without ties; facts T1 and T2."""

import unittest
from random import Random

from steadymixes.blocks import blocks, steady_corners
from steadymixes.errors import HasTies, InvalidMix, NotSteady
from steadymixes.games import moved, turned
from steadymixes.signs import sign, signed, tie, tie_holds
from steadymixes.steady import pure, steady_with
from tests.calls import refused
from tests.judges import (all_corners, best_of, few_figures, good_part, lot_of, lots, parts, same, sign_of, size,
                          steady, steady_corners as right_corners, tie_is_right, tied, worths_in)
from tests.samples import (ALIKE, ANYTHING, CLEAR, CROSSED, FINE, FINE_TIED, GAME, IDLE, LARGE, LONG, MANY_BLOCKS,
                           OBLONG, ONE_COLUMN, ONE_FIELD, ONE_ROW, ORDERED, PENNIES, ROCK, SMALL, STEPS, TWOFOLD,
                           clear_games, drawn_games, drawn_mix, every_shape, filled, games_of_two, long_mix)

FIRST, SECOND, HALF = ((1, 1), (0, 1)), ((0, 1), (1, 1)), ((1, 2), (1, 2))
WITHOUT_TIES = [GAME, PENNIES, ROCK, ONE_FIELD, STEPS, CLEAR, ORDERED, CROSSED, FINE]
WITH_TIES = [ALIKE, OBLONG, IDLE, ONE_ROW, ONE_COLUMN, FINE_TIED, TWOFOLD, MANY_BLOCKS,
             filled(1, 2, 0), filled(2, 1, 0), filled(5, 5, -1000)]


class Example(unittest.TestCase):
    def test_the_document_s_own(self):
        game = (((3, 0), (0, 2)), ((2, 0), (0, 3)))
        self.assertIsNone(tie(game))
        self.assertEqual([found for pair, found in signed(game)], [1, -1, 1])
        self.assertIs(tie_holds((((1, 1), (1, 0)), ((1, 1), (1, 0))), (0, ((1, 1), (0, 1)))), True)


class Ties(unittest.TestCase):
    def check(self, game):
        told = tie(game)
        self.assertIs(told is None, not tied(game))
        if told is not None:
            self.assertTrue(tie_is_right(game, told))
            self.assertTrue(few_figures(told))
            self.assertIs(tie_holds(game, told), True)
        return told

    def test_known_ones(self):
        for game in WITHOUT_TIES:
            self.assertIsNone(self.check(game))
        for game in WITH_TIES:
            self.assertIsNotNone(self.check(game))

    def test_one_just_if_there_is_one(self):
        found = [self.check(game) is None for game in
                 SMALL + LARGE + drawn_games(120, 201, bounds=(1, 3, 9, 9, 1000)) + every_shape(202, 1000)]
        self.assertGreater(found.count(True), 40)
        self.assertGreater(found.count(False), 40)

    def test_all_little_games_of_two(self):
        for game in games_of_two((0, 1, 2))[::11]:
            self.check(game)

    def test_a_tie_of_one_side_alone(self):
        # Against the first row both columns are alike; no mix of columns makes more rows best than it has.
        game = (((1, 2), (0, 5)), ((3, 3), (1, 3)))
        self.assertEqual(tie(game), (0, FIRST))
        self.assertEqual(tie(turned(game)), (1, FIRST))
        self.assertIsNone(tie((((1, 2), (0, 5)), ((3, 4), (1, 3)))))
        self.assertIsNone(tie((((1, 2), (0, 5)), ((3, 2), (1, 3)))))

    def test_a_tie_of_a_mix_alone(self):
        # Each row alone has one best column, but against both by halves all three are best.
        game = (((1, 2, 3), (3, 1, 2)), ((4, 0, 2), (0, 4, 2)))
        self.assertEqual(tie(game), (0, HALF))
        self.assertIsNone(tie((((1, 2, 3), (3, 1, 2)), ((4, 0, 1), (0, 4, 1)))))
        self.assertIsNone(tie((((1, 2, 3), (3, 1, 2)), ((4, 0, 3), (0, 4, 3)))))

    def test_a_tie_off_every_steady_pair(self):
        # The second row, against which both columns are alike, is one that nobody takes.
        game = (((5, 5), (1, 2)), ((3, 1), (4, 4)))
        self.assertEqual(tie(game), (0, SECOND))
        self.assertEqual(len(blocks(game)), 1)

    def test_choices_alike_that_are_never_best_are_no_tie(self):
        game = (((5, 7, 6), (3, 1, 2)), ((9, 0, 0), (9, 1, 1)))
        self.assertIsNone(tie(game))
        self.assertEqual(signed(game), [((FIRST, parts(1, 0, 0)), 1)])

    def test_no_mix_is_one_where_none_is_told(self):
        draw = Random(203)
        for game in WITHOUT_TIES + clear_games(120, 207)[:40]:
            for side in (0, 1):
                for mix in [drawn_mix(draw, size(game, side), 2) for _ in range(8)]:
                    self.assertLessEqual(len(best_of(game, 1 - side, mix)), len(lot_of(mix)))

    def test_ties_stay_as_heights_move(self):
        for game in (GAME, ALIKE, OBLONG, CLEAR, ROCK, TWOFOLD):
            shifted = moved(moved(game, 0, 1, 17), 1, 0, -9)
            self.assertIs(tie(shifted) is None, tie(game) is None)


class TieHolds(unittest.TestCase):
    def test_right_and_wrong_mixes(self):
        for game in WITHOUT_TIES[:5] + WITH_TIES:
            for side in (0, 1):
                for mix in all_corners(game, side):
                    self.assertIs(tie_holds(game, (side, mix)), tie_is_right(game, (side, mix)))

    def test_mixes_that_are_no_corners(self):
        draw = Random(205)
        found = set()
        for game in SMALL + WITH_TIES + drawn_games(60, 206, bounds=(0, 1)):
            for side in (0, 1):
                mix = drawn_mix(draw, size(game, side), 2)
                told = tie_holds(game, (side, mix))
                self.assertIs(told, len(best_of(game, 1 - side, mix)) > len(lot_of(mix)))
                found.add(told)
        self.assertEqual(found, {True, False})
        self.assertIs(tie_holds(filled(2, 3, 0), (0, long_mix(draw, 2))), True)
        self.assertIs(tie_holds(filled(3, 3, 0), (0, long_mix(draw, 3))), False)
        self.assertIs(tie_holds(filled(3, 3, 0), (0, ((LONG - 1, LONG), (1, LONG), (0, 1)))), True)

    def test_a_mix_of_the_other_side_is_none(self):
        self.assertIs(tie_holds(OBLONG, (0, HALF)), True)
        self.assertIs(tie_holds(OBLONG, (1, HALF)), False)
        self.assertIs(tie_holds(OBLONG, (1, parts(0, 0, 1))), True)
        self.assertIs(tie_holds(OBLONG, (0, parts(0, 0, 1))), False)
        self.assertIs(tie_holds(ALIKE, (1, FIRST)), True)
        self.assertIs(tie_holds(ALIKE, (1, SECOND)), False)

    def test_objects_of_all_kinds(self):
        wrong = [(0, FIRST, FIRST), (0,), [0, FIRST], (False, FIRST), (2, FIRST), (-1, FIRST), ("0", FIRST),
                 (None, FIRST), ([0], FIRST), (FIRST, 0), (0, list(FIRST)), (0, ([1, 1], (0, 1))), (0, ((1, 1),)),
                 (0, ((1, 1), (0, 2))), (0, ((2, 2), (0, 1))), (0, ((True, 1), (0, 1))), (0, ((1, True), (0, 1))),
                 (0, ((1, 1), (False, 1))), (0, ((2, 1), (-1, 1))), (0, ((1, 1), (1, 1))), (0, None), (0, ()), (0, 0),
                 (0, "ab"), (True, FIRST), {0: FIRST}, ((0, FIRST),)]
        self.assertIs(tie_holds(ALIKE, (0, FIRST)), True)
        for value in wrong + ANYTHING + [(0, value) for value in ANYTHING] + [(value, FIRST) for value in ANYTHING]:
            expected = same(value, (0, FIRST)) or same(value, (1, FIRST))
            self.assertIs(tie_holds(ALIKE, value), expected, value)


class Signs(unittest.TestCase):
    def test_known_ones(self):
        self.assertEqual(sign(GAME, FIRST, FIRST), 1)
        self.assertEqual(sign(GAME, SECOND, SECOND), 1)
        self.assertEqual(sign(GAME, ((3, 5), (2, 5)), ((2, 5), (3, 5))), -1)
        self.assertEqual(sign(PENNIES, HALF, HALF), 1)
        self.assertEqual(sign(ROCK, parts(1, 1, 1), parts(1, 1, 1)), 1)
        self.assertEqual(sign(ONE_FIELD, ((1, 1),), ((1, 1),)), 1)

    def test_as_the_determinants_tell(self):
        found = set()
        for game in WITHOUT_TIES + clear_games(120, 207) + [turned(CLEAR), turned(FINE)]:
            for pair in right_corners(game):
                told = sign(game, *pair)
                self.assertIs(type(told), int)
                self.assertEqual(told, sign_of(game, pair))
                found.add((len(lot_of(pair[0])), told))
        self.assertLessEqual({(1, 1), (2, 1), (2, -1), (3, 1), (3, -1), (4, 1), (4, -1), (5, 1), (5, -1)}, found)

    def test_the_least_numbers_are_above_nought_with_what_is_added(self):
        least = (((-1000, -999), (-999, -1000)), ((-1000, -999), (-999, -1000)))
        self.assertEqual([found for _, found in signed(least)], [1, -1, 1])
        self.assertEqual(signed((((-1000,),), ((-1000,),))), [((((1, 1),), ((1, 1),)), 1)])
        for game in (CLEAR, GAME, PENNIES, ROCK):
            for numbers in ((-900, -900), (900, -900), (-900, 900)):
                shifted = game
                for side in (0, 1):
                    for choice in range(size(game, 1 - side)):
                        shifted = moved(shifted, side, choice, numbers[side])
                self.assertEqual(signed(shifted), signed(game))

    def test_in_sequence_of_what_is_refused(self):
        for game in WITH_TIES:
            for pair in ((None, None), steady_corners(game)[0]):
                error = refused(sign, [game, *pair])
                self.assertIs(type(error), HasTies)
                self.assertEqual(error.value, game)
            self.assertEqual(refused(signed, [game]).value, game)
        self.assertIs(type(refused(sign, [GAME, HALF, ROCK])), InvalidMix)
        error = refused(sign, [GAME, HALF, HALF])
        self.assertIs(type(error), NotSteady)
        self.assertEqual(error.value, (HALF, HALF))


class Signed(unittest.TestCase):
    def test_all_steady_pairs_with_their_signs(self):
        for game in WITHOUT_TIES + clear_games(120, 207) + [game for game in every_shape(209, 1000) if not tied(game)]:
            told = signed(game)
            self.assertIs(type(told), list)
            self.assertTrue(same(told, [(pair, sign_of(game, pair)) for pair in right_corners(game)]))
            self.assertTrue(all(steady(game, *pair) and all(good_part(chance) for mix in pair for chance in mix)
                                for pair, _ in told))

    def test_each_two_lots_have_theirs(self):
        for game in WITHOUT_TIES[:6] + clear_games(30, 210, most=4):
            found = [steady_with(game, rows, columns) for rows in lots(size(game, 0)) for columns in lots(size(game, 1))]
            self.assertEqual(sorted(worths_in([pair for pair in found if pair is not None])),
                             worths_in([pair for pair, _ in signed(game)]))
            self.assertTrue(all(len(lot_of(one)) == len(lot_of(other)) for (one, other), _ in signed(game)))

    def test_they_come_to_one(self):
        for game in WITHOUT_TIES + clear_games(120, 207) + clear_games(60, 212, most=3):
            told = signed(game)
            self.assertEqual(sum(found for _, found in told), 1)
            self.assertEqual(len(told) % 2, 1)

    def test_pure_pairs_have_the_sign_one(self):
        seen = 0
        for game in WITHOUT_TIES + clear_games(120, 207):
            told = [(pair, found) for pair, found in signed(game) if len(lot_of(pair[0])) == 1]
            self.assertTrue(all(found == 1 for _, found in told))
            self.assertEqual([(lot_of(one)[0], lot_of(other)[0]) for (one, other), _ in told][::-1], pure(game))
            seen += len(told)
        self.assertGreater(seen, 80)

    def test_ascending_is_by_worth(self):
        for game in (FINE, ORDERED, CLEAR):
            order = worths_in([pair for pair, _ in signed(game)])
            self.assertTrue(all(a < b for a, b in zip(order, order[1:])))
        self.assertEqual(len(signed(ORDERED)), 31)
        self.assertEqual(len(signed(FINE)), 9)

    def test_the_largest_numbers(self):
        # Without ties of its own as it stands: each number is at an end of what is let.
        game = (((1000, -1000), (-1000, 999)), ((-1000, 1000), (999, -1000)))
        self.assertEqual(len(signed(game)), 1)
        self.assertEqual([found for _, found in signed(game)], [1])
        self.assertEqual(len(signed(STEPS)), 1)


if __name__ == "__main__":
    unittest.main()
