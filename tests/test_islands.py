"""[16] Changes that untie, what comes out by them, and the signs of islands; facts I1 and I2."""

import unittest
from itertools import combinations, product
from random import Random

from steadymixes.blocks import blocks, blocks_of, islands, steady_corners
from steadymixes.corners import is_corner
from steadymixes.errors import InvalidChanges, Tied
from steadymixes.games import is_game
from steadymixes.islands import comes_out, island_signs, some_changes, stays, unties
from steadymixes.signs import signed, tie
from tests.calls import refused
from tests.judges import (coming_out, determinant, good_chances, lists_in, lot_of, parts, same, sign_of, size, steady,
                          tied)
from tests.judges import steady_corners as right_corners
from tests.samples import (ALIKE, CLEAR, CROSSED, FINE, FINE_TIED, GAME, IDLE, LARGE, MANY_BLOCKS, OBLONG,
                           ONE_COLUMN, ONE_FIELD, ONE_ROW, ORDERED, PENNIES, ROCK, SMALL, STEPS, TWOFOLD, clear_games,
                           drawn_game, drawn_games, every_shape, filled, games_of_two, like_rows)

FIRST, SECOND, HALF = ((1, 1), (0, 1)), ((0, 1), (1, 1)), ((1, 2), (1, 2))
TIED = [ALIKE, OBLONG, IDLE, ONE_ROW, ONE_COLUMN, TWOFOLD, MANY_BLOCKS, FINE_TIED,
        filled(1, 4, 3), filled(5, 1, -3), filled(3, 3, 0), filled(5, 5, 0), like_rows((1, 0, 1), (0, 1, 1), 4)]


def noughts(game):
    return filled(size(game, 0), size(game, 1), 0)


def drawn_changes(draw, game, bound):
    return drawn_game(draw, size(game, 0), size(game, 1), bound)


def one_number(game, table, row, column, number):
    """Changes of one number alone."""
    rows = [[list(told) for told in tables] for tables in noughts(game)]
    rows[table][row][column] = number
    return tuple(tuple(tuple(told) for told in tables) for tables in rows)


def island_of(game, pair):
    """The index of the island to which a steady pair belongs."""
    index = blocks_of(game, *pair)[0]
    return [index in island for island in islands(game)].index(True)


def sums(game, changes):
    """The sums of the signs of what comes out of each island."""
    told = [0] * len(islands(game))
    for _, _, sign, pair in comes_out(game, changes):
        told[island_of(game, pair)] += sign
    return told


class Example(unittest.TestCase):
    def test_the_document_s_own(self):
        alike = (((1, 1), (1, 0)), ((1, 1), (1, 0)))
        up, down = (((0, 0), (1, 0)), ((0, 1), (0, 0))), (((1, 0), (0, 0)), ((1, 0), (0, 0)))
        self.assertEqual(island_signs(alike), [1])
        self.assertEqual(stays(alike), [0])
        self.assertIs(unties(alike, (((0, 0), (0, 0)), ((0, 0), (0, 0)))), False)
        self.assertIs(unties(alike, some_changes(alike)), True)
        self.assertEqual(comes_out(alike, down), [((0,), (0,), 1, (((1, 1), (0, 1)), ((1, 1), (0, 1))))])
        self.assertEqual([found[:3] for found in comes_out(alike, up)],
                         [((0,), (1,), 1), ((0, 1), (0, 1), -1), ((1,), (0,), 1)])


class Unties(unittest.TestCase):
    def test_noughts_and_the_game_itself_leave_ties_as_they_are(self):
        for game in SMALL + LARGE + TIED + [CLEAR, ORDERED, FINE] + drawn_games(60, 301):
            untied = tie(game) is None
            self.assertIs(unties(game, noughts(game)), untied)
            self.assertIs(unties(game, game), untied)
            self.assertIs(unties(game, tuple(tuple(tuple(-number for number in row) for row in table)
                                             for table in game)), untied)
            rows, columns = size(game, 0), size(game, 1)
            self.assertIs(unties(game, filled(rows, columns, 1000, -1000)), untied)

    def test_any_changes_leave_a_game_without_ties_so(self):
        draw = Random(302)
        for game in [GAME, PENNIES, ROCK, CLEAR, ORDERED, CROSSED, FINE, STEPS] + clear_games(120, 207)[:30]:
            for bound in (0, 1, 1000):
                self.assertIs(unties(game, drawn_changes(draw, game, bound)), True)

    def test_each_number_alone(self):
        for game in [ALIKE, IDLE, OBLONG, ONE_ROW, filled(1, 2, 0), filled(2, 2, 0)]:
            for table, row, column, number in product((0, 1), range(size(game, 0)), range(size(game, 1)), (-3, 1)):
                changes = one_number(game, table, row, column, number)
                self.assertIs(unties(game, changes), coming_out(game, changes) is not None)

    def test_known_ones(self):
        # The first side does not care, the second one does: only the first one's table needs changes.
        game = (((2, 2), (2, 2)), ((1, 0), (0, 1)))
        self.assertIs(unties(game, one_number(game, 0, 0, 0, 1)), False)
        self.assertIs(unties(game, (((1, 0), (0, 1)), ((0, 0), (0, 0)))), True)
        self.assertIs(unties(game, (((0, 0), (0, 0)), ((1, 0), (0, 1)))), False)
        self.assertIs(unties(IDLE, (((0, 0), (0, 1)), ((0, 0), (0, 1)))), True)
        self.assertIs(unties(filled(1, 2, 0), (((0, 0),), ((0, 1),))), True)
        self.assertIs(unties(filled(1, 2, 0), (((0, 1),), ((0, 0),))), False)
        self.assertIs(unties(ONE_FIELD, noughts(ONE_FIELD)), True)

    def test_ties_that_only_the_highest_powers_undo(self):
        # Against each pure mix the changes tell all choices apart, but not against the even one.
        nothing = filled(2, 3, 0)
        level = ((0, 0, 0), (0, 0, 0)), ((0, 1, 2), (4, 3, 2))
        self.assertIs(unties(nothing, level), False)
        self.assertIs(unties(nothing, (((0, 0, 0), (1, 2, 3)), level[1])), False)
        self.assertIs(unties(nothing, (((0, 5, 1), (1, 2, 3)), ((0, 1, 2), (4, 3, 1)))), True)
        self.assertIs(unties(FINE_TIED, noughts(FINE_TIED)), False)

    def test_drawn_changes_of_drawn_games(self):
        draw = Random(303)
        found = {True: 0, False: 0}
        for game in SMALL + TIED[:6] + drawn_games(50, 304, most=4, bounds=(0, 1, 1, 2)):
            for bound in (1, 1, 3):
                changes = drawn_changes(draw, game, bound)
                told = unties(game, changes)
                self.assertIs(told, coming_out(game, changes) is not None)
                found[told] += 1
        self.assertGreater(min(found.values()), 40)


class SomeChanges(unittest.TestCase):
    def check(self, game):
        changes = some_changes(game)
        self.assertTrue(is_game(changes))
        self.assertEqual([size(changes, side) for side in (0, 1)], [size(game, side) for side in (0, 1)])
        self.assertIs(unties(game, changes), True)
        return changes

    def test_they_untie(self):
        games = SMALL + LARGE + TIED + [CLEAR, ORDERED, FINE, STEPS]
        for game in games + drawn_games(150, 305, bounds=(0, 1, 1, 2)) + every_shape(306, 0):
            self.check(game)

    def test_all_little_games_of_two(self):
        for game in games_of_two((0, 1)):
            self.check(game)

    def test_they_untie_as_the_judges_tell(self):
        for game in SMALL + [ONE_ROW, filled(3, 4, 1), FINE_TIED] + drawn_games(20, 307, most=4, bounds=(0, 1)):
            self.assertIsNotNone(coming_out(game, self.check(game)))

    def test_no_game_of_their_shape_can_keep_ties(self):
        # Whatever the game, a tie that stays makes one of these determinants nought.
        changes = some_changes(filled(5, 5, 0))
        for table in (tuple(zip(*changes[0])), changes[1]):
            for many in range(1, 5):
                for lot, best in product(combinations(range(5), many), combinations(range(5), many + 1)):
                    rows = [[1] * len(best)] + [[table[own][choice] for choice in best] for own in lot]
                    self.assertNotEqual(determinant(rows), 0)


class ComesOut(unittest.TestCase):
    def check(self, game, changes):
        """What comes out, as the judges tell it by an e of their own; each pair is steady in the game."""
        told = comes_out(game, changes)
        self.assertIs(type(told), list)
        self.assertTrue(same(told, coming_out(game, changes)), (game, changes))
        self.assertEqual(len(lists_in(told)), 1)
        for _, _, _, pair in told:
            self.assertTrue(all(good_chances(mix, size(game, side)) for side, mix in enumerate(pair)))
            self.assertTrue(steady(game, *pair))
        return told

    def test_games_without_ties_keep_what_they_have(self):
        draw = Random(308)
        for game in [GAME, PENNIES, ROCK, ONE_FIELD, CLEAR, ORDERED, CROSSED, FINE, STEPS] + clear_games(120, 207)[:40]:
            right = sorted((lot_of(one), lot_of(other), sign, (one, other)) for (one, other), sign in signed(game))
            for bound in (0, 1, 1000):
                self.assertTrue(same(comes_out(game, drawn_changes(draw, game, bound)), right))

    def test_known_ones(self):
        self.assertEqual(comes_out(IDLE, (((0, 0), (0, 1)), ((0, 0), (0, 1)))), [
            ((0,), (0,), 1, (FIRST, FIRST)), ((0, 1), (0, 1), -1, (SECOND, SECOND)), ((1,), (1,), 1, (SECOND, SECOND))])
        self.assertEqual(comes_out(IDLE, (((0, 0), (0, -1)), ((0, 0), (0, -1)))), [((0,), (0,), 1, (FIRST, FIRST))])
        # Of a game of noughts just the steady pairs of the changes come out, as they are.
        for changes in (GAME, CLEAR, ROCK, FINE):
            game = noughts(changes)
            right = sorted((lot_of(one), lot_of(other), sign, (one, other)) for (one, other), sign in signed(changes))
            self.assertTrue(same(comes_out(game, changes), right))
        one_row = comes_out(filled(1, 3, 0), (((0, 0, 0),), ((1, 3, 2),)))
        self.assertEqual(one_row, [((0,), (1,), 1, (((1, 1),), parts(0, 1, 0)))])

    def test_mixes_that_go_to_others_with_fewer_choices(self):
        # The mix of both rows goes to the second one: its chance for the first is like e.
        told = comes_out(IDLE, (((0, 0), (0, 1)), ((0, 0), (0, 1))))
        self.assertEqual(told[1][0], (0, 1))
        self.assertEqual(lot_of(told[1][3][0]), (1,))
        seen = 0
        for game in TIED[:8] + drawn_games(60, 310, bounds=(1, 1, 2)):
            for rows, columns, _, (one, other) in comes_out(game, some_changes(game)):
                self.assertLessEqual(set(lot_of(one)), set(rows))
                self.assertLessEqual(set(lot_of(other)), set(columns))
                seen += (lot_of(one), lot_of(other)) != (rows, columns)
        self.assertGreater(seen, 20)

    def test_pairs_of_no_corner(self):
        # By these changes a mix between the corners of an island is what is left.
        game = (((2, 2), (2, 2)), ((1, 1), (1, 1)))
        told = self.check(game, (((1, 0), (0, 2)), ((0, 5), (3, 0))))
        self.assertEqual([(rows, columns) for rows, columns, _, _ in told], [((0, 1), (0, 1))])
        self.assertFalse(is_corner(game, 0, told[0][3][0]))

    def test_many_games_and_changes(self):
        draw = Random(311)
        seen = 0
        for game in SMALL + TIED[:6] + drawn_games(60, 312, most=4, bounds=(0, 1, 1, 2)):
            for bound in (2, 1000):
                changes = drawn_changes(draw, game, bound)
                if coming_out(game, changes) is not None:
                    seen += len(self.check(game, changes))
        self.assertGreater(seen, 150)

    def test_large_games(self):
        draw = Random(313)
        for game in (MANY_BLOCKS, FINE_TIED, like_rows((7, 0, 7, 0, 7), (0, 0, 1, 1, 1), 5)):
            self.check(game, some_changes(game))
            self.check(game, drawn_changes(draw, game, 1000))

    def test_games_for_which_little_changes_go_far(self):
        for number in (1000, -1000):
            for table, place in ((0, 0), (1, 3)):
                changes = one_number(FINE, table, place, place, number)
                told = comes_out(FINE, changes)
                right = [(lot_of(one), lot_of(other), sign_of(FINE, (one, other)), (one, other))
                         for one, other in right_corners(FINE)]
                self.assertTrue(same(told, sorted(right)))
                self.assertEqual(len(told), 9)
        draw = Random(314)
        for _ in range(2):
            self.check(FINE_TIED, drawn_changes(draw, FINE_TIED, 1000))

    def test_in_sequence_of_lots_as_tuples_compare(self):
        for game in (ORDERED, FINE, CROSSED, noughts(ORDERED)):
            keys = [(rows, columns) for rows, columns, _, _ in comes_out(game, ORDERED)]
            self.assertTrue(all(a < b for a, b in zip(keys, keys[1:])))
        keys = [rows for rows, _, _, _ in comes_out(ORDERED, ORDERED)]
        self.assertEqual(keys[:4], [(0,), (0, 1), (0, 1, 2), (0, 1, 2, 3)])

    def test_what_is_tied_is_refused(self):
        for game in TIED:
            for changes in (noughts(game), game):
                error = refused(comes_out, [game, changes])
                self.assertIs(type(error), Tied)
                self.assertTrue(same(error.value, changes))
            rows, columns = size(game, 0), size(game, 1)
            error = refused(comes_out, [game, filled(columns + 1, rows, 0)])
            self.assertIs(type(error), InvalidChanges)
        for game in (GAME, CLEAR):
            self.assertEqual(len(comes_out(game, noughts(game))), 3)


class IslandSigns(unittest.TestCase):
    def test_known_ones(self):
        self.assertEqual(island_signs(GAME), [1, -1, 1])
        self.assertEqual(island_signs(IDLE), [0, 1])
        self.assertEqual(island_signs(TWOFOLD), [2, -1])
        self.assertEqual(island_signs(MANY_BLOCKS), [0, 1])
        for game in (ALIKE, OBLONG, ONE_ROW, ONE_COLUMN, ONE_FIELD, filled(5, 5, 0), PENNIES, ROCK):
            self.assertEqual(island_signs(game), [1])

    def test_of_games_without_ties_they_are_those_of_the_pairs(self):
        for game in [CLEAR, ORDERED, CROSSED, FINE, STEPS] + clear_games(120, 207)[:40]:
            self.assertEqual(island_signs(game), [sign for _, sign in signed(game)])

    def test_they_come_to_one(self):
        for game in SMALL + LARGE + TIED + drawn_games(200, 315, bounds=(0, 1, 1, 2)) + every_shape(316, 1):
            told = island_signs(game)
            self.assertIs(type(told), list)
            self.assertTrue(all(type(sign) is int for sign in told))
            self.assertEqual(len(told), len(islands(game)))
            self.assertEqual(sum(told), 1)

    def test_all_little_games_of_two(self):
        for game in games_of_two((0, 1)):
            self.assertEqual(sum(island_signs(game)), 1)
            self.assertEqual(island_signs(game), sums(game, some_changes(game)))

    def test_each_island_has_the_same_by_different_changes(self):
        draw = Random(317)
        seen = set()
        for game in SMALL + TIED + drawn_games(60, 318, bounds=(1, 1, 2)):
            right = island_signs(game)
            seen |= set(right)
            self.assertEqual(sums(game, some_changes(game)), right)
            for bound in (9, 1000, 1000):
                changes = drawn_changes(draw, game, bound)
                if unties(game, changes):
                    self.assertEqual(sums(game, changes), right)
        self.assertLessEqual({-1, 0, 1, 2}, seen)

    def test_what_comes_out_goes_to_a_pair_of_one_island(self):
        draw = Random(319)
        for game in TIED + drawn_games(30, 320, bounds=(1, 1, 2)):
            changes = drawn_changes(draw, game, 1000)
            if unties(game, changes):
                for _, _, _, pair in comes_out(game, changes):
                    found = blocks_of(game, *pair)
                    holding = [island for island in islands(game) if set(found) & set(island)]
                    self.assertEqual(len(holding), 1)
                    self.assertLessEqual(set(found), set(holding[0]))


class Stays(unittest.TestCase):
    def test_those_whose_sign_is_not_nought(self):
        self.assertEqual(stays(GAME), [0, 1, 2])
        self.assertEqual(stays(IDLE), [1])
        self.assertEqual(stays(TWOFOLD), [0, 1])
        self.assertEqual(stays(MANY_BLOCKS), [1])
        for game in SMALL + TIED + drawn_games(60, 321, bounds=(1, 1, 2)):
            told = stays(game)
            self.assertIs(type(told), list)
            self.assertEqual(told, [index for index, sign in enumerate(island_signs(game)) if sign])
            self.assertTrue(told)

    def test_a_steady_pair_comes_out_of_each(self):
        draw = Random(322)
        seen = set()
        for game in TIED + [CLEAR] + drawn_games(40, 323, bounds=(1, 1, 2)):
            for bound in (3, 1000):
                changes = drawn_changes(draw, game, bound)
                if unties(game, changes):
                    found = {island_of(game, pair) for _, _, _, pair in comes_out(game, changes)}
                    self.assertLessEqual(set(stays(game)), found)
                    seen.add(found == set(range(len(islands(game)))))
        self.assertEqual(seen, {True, False})


class Islands(unittest.TestCase):
    def test_ties_and_blocks(self):
        # Where there are no ties, each steady pair is an island by itself.
        for game in SMALL + drawn_games(40, 324):
            if not tied(game):
                self.assertEqual(len(islands(game)), len(steady_corners(game)))
                self.assertEqual(len(blocks(game)), len(steady_corners(game)))


if __name__ == "__main__":
    unittest.main()
