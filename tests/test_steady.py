"""[5], [11] Steady pairs, pure ones, and papers of lots; facts S1 and S2."""

import unittest
from itertools import product
from random import Random

from steadymixes.games import even_mix, gains
from steadymixes.steady import is_steady, lots_paper, lots_paper_holds, pure, some_steady, steady_with, whole_paper
from tests.judges import (bar_is_right, few_figures, good_chances, lots, pair_is_right, paper_is_right, parts, size,
                          steady)
from tests.samples import (ALIKE, ANYTHING, FULL, GAME, LARGE, LONG, NEAR_HALF, OBLONG, ONE_COLUMN, ONE_FIELD,
                           ONE_ROW, PENNIES, ROCK, SMALL, STEPS, THREE_ROWS, drawn_games, drawn_pair, every_shape,
                           filled, long_mix)


def lots_of(game):
    """All two lots of a game, in the sequence of whole_paper."""
    return list(product(lots(size(game, 0)), lots(size(game, 1))))


class Example(unittest.TestCase):
    def test_the_document_s_own(self):
        game = (((3, 0), (0, 2)), ((2, 0), (0, 3)))
        self.assertEqual(pure(game), [(0, 0), (1, 1)])
        self.assertEqual(steady_with(game, (0, 1), (0, 1)), (((3, 5), (2, 5)), ((2, 5), (3, 5))))
        self.assertIsNone(steady_with(game, (0, 1), (0,)))
        self.assertIs(is_steady(game, ((1, 2), (1, 2)), ((2, 5), (3, 5))), False)
        self.assertIs(lots_paper_holds(game, (0,), (0, 1), ("bar", 0, (1, -1))), True)
        self.assertIs(lots_paper_holds(game, (0,), (0, 1), ("bar", 0, (-1, 1))), False)


class IsSteady(unittest.TestCase):
    def test_ordinary_pairs(self):
        half = ((1, 2), (1, 2))
        self.assertIs(is_steady(PENNIES, half, half), True)
        self.assertIs(is_steady(PENNIES, half, ((1, 3), (2, 3))), False)
        self.assertIs(is_steady(PENNIES, ((1, 3), (2, 3)), half), False)
        self.assertIs(is_steady(PENNIES, ((1, 1), (0, 1)), ((1, 1), (0, 1))), False)
        self.assertIs(is_steady(GAME, ((1, 1), (0, 1)), ((1, 1), (0, 1))), True)
        self.assertIs(is_steady(GAME, ((1, 1), (0, 1)), ((0, 1), (1, 1))), False)
        third = ((1, 3),) * 3
        self.assertIs(is_steady(ROCK, third, third), True)
        self.assertIs(is_steady(ONE_FIELD, ((1, 1),), ((1, 1),)), True)

    def test_one_side_that_gains_is_enough_against_it(self):
        game = (((1, 1), (1, 1)), ((1, 0), (1, 0)))
        self.assertIs(is_steady(game, ((1, 2), (1, 2)), ((1, 1), (0, 1))), True)
        self.assertIs(is_steady(game, ((1, 2), (1, 2)), ((1, 2), (1, 2))), False)
        turned = (((1, 1), (0, 0)), ((1, 1), (1, 1)))
        self.assertIs(is_steady(turned, ((1, 1), (0, 1)), ((1, 2), (1, 2))), True)
        self.assertIs(is_steady(turned, ((1, 2), (1, 2)), ((1, 2), (1, 2))), False)

    def test_it_is_judged_exactly(self):
        half = ((1, 2), (1, 2))
        self.assertIs(is_steady(PENNIES, half, NEAR_HALF), False)
        self.assertIs(is_steady(PENNIES, NEAR_HALF, half), False)
        self.assertIs(is_steady(PENNIES, NEAR_HALF, NEAR_HALF), False)
        nearly_all = ((LONG - 1, LONG), (1, LONG))
        self.assertIs(is_steady(GAME, nearly_all, ((1, 1), (0, 1))), False)
        self.assertIs(is_steady(GAME, ((1, 1), (0, 1)), nearly_all), False)

    def test_every_pair_of_a_game_without_differences(self):
        draw = Random(20)
        for rows, columns in product(range(1, 6), repeat=2):
            game = filled(rows, columns, -3, 8)
            self.assertIs(is_steady(game, *drawn_pair(draw, game)), True)
            self.assertIs(is_steady(game, long_mix(draw, rows), long_mix(draw, columns)), True)

    def test_just_the_pairs_without_gains(self):
        draw = Random(21)
        found = set()
        for game in SMALL + LARGE + drawn_games(150, 22, bounds=(0, 1, 1)):
            for _ in range(6):
                one, other = drawn_pair(draw, game)
                told = is_steady(game, one, other)
                self.assertIs(told, steady(game, one, other))
                self.assertIs(told, gains(game, one, other) == ((0, 1), (0, 1)))
                found.add(told)
        self.assertEqual(found, {True, False})


class SomeSteady(unittest.TestCase):
    def check(self, game):
        told = some_steady(game)
        self.assertEqual((type(told), len(told)), (tuple, 2))
        self.assertTrue(good_chances(told[0], size(game, 0)) and good_chances(told[1], size(game, 1)))
        self.assertTrue(steady(game, *told), game)
        self.assertTrue(few_figures(told))

    def test_games_of_every_shape_have_one(self):
        for game in every_shape(23, 1000) + every_shape(24, 2) + every_shape(25, 0):
            self.check(game)

    def test_games_with_ties_and_without(self):
        for game in SMALL + LARGE + drawn_games(120, 26):
            self.check(game)

    def test_games_with_five_choices_each(self):
        for game in drawn_games(400, 27, bounds=(1, 3, 1000)):
            if size(game, 0) == 5 == size(game, 1):
                self.check(game)

    def test_the_only_one_is_told(self):
        half = ((1, 2), (1, 2))
        self.assertEqual(some_steady(PENNIES), (half, half))
        self.assertEqual(some_steady(ROCK), (((1, 3),) * 3,) * 2)
        self.assertEqual(some_steady(FULL), (parts(1, 1, 1, 1, 1),) * 2)
        self.assertEqual(some_steady(ONE_FIELD), (((1, 1),), ((1, 1),)))
        prisoners = (((2, 0), (3, 1)), ((2, 3), (0, 1)))
        self.assertEqual(some_steady(prisoners), (((0, 1), (1, 1)),) * 2)


class Pure(unittest.TestCase):
    def test_none_one_and_all(self):
        self.assertEqual(pure(PENNIES), [])
        self.assertEqual(pure(ROCK), [])
        self.assertEqual(pure(ALIKE), [(0, 0), (0, 1), (1, 0)])
        self.assertEqual(pure(filled(2, 3, 7)), [(0, 0), (0, 1), (0, 2), (1, 0), (1, 1), (1, 2)])
        self.assertEqual(pure(ONE_FIELD), [(0, 0)])
        self.assertEqual(pure(ONE_ROW), [(0, 1), (0, 3), (0, 4)])
        self.assertEqual(pure(ONE_COLUMN), [(1, 0), (3, 0), (4, 0)])
        self.assertEqual(pure(OBLONG), [])

    def test_just_those_whose_mixes_are_steady(self):
        for game in SMALL + LARGE + every_shape(28, 1) + every_shape(29, 1000) + drawn_games(60, 30):
            fields = product(range(size(game, 0)), range(size(game, 1)))
            expected = [(row, column) for row, column in fields
                        if steady(game, even_mix(game, 0, (row,)), even_mix(game, 1, (column,)))]
            told = pure(game)
            self.assertEqual(told, expected)
            self.assertEqual(type(told), list)
            self.assertTrue(all(type(field) is tuple for field in told))


class Papers(unittest.TestCase):
    def check(self, game, chosen=None):
        for rows, columns in chosen or lots_of(game):
            told = lots_paper(game, rows, columns)
            self.assertTrue(paper_is_right(game, rows, columns, told), (game, rows, columns, told))
            self.assertTrue(few_figures(told))
            self.assertIs(lots_paper_holds(game, rows, columns, told), True)
            pair = steady_with(game, rows, columns)
            if told[0] == "bar":
                self.assertIsNone(pair, (game, rows, columns))
            else:
                self.assertTrue(pair_is_right(game, rows, columns, pair), (game, rows, columns, pair))
                self.assertTrue(few_figures(pair))
                self.assertIs(lots_paper_holds(game, rows, columns, ("pair", *pair)), True)

    def test_small_games(self):
        for game in SMALL:
            self.check(game)

    def test_drawn_games_with_ties_and_without(self):
        for game in drawn_games(60, 31, most=4):
            self.check(game)

    def test_games_of_every_shape(self):
        draw = Random(32)
        for game in every_shape(33, 1) + every_shape(34, 1000):
            told = lots_of(game)
            self.check(game, draw.sample(told, min(len(told), 12)))

    def test_one_row_and_one_column(self):
        for game in (ONE_ROW, ONE_COLUMN):
            self.check(game)

    def test_five_rows_and_five_columns(self):
        self.check(FULL)
        self.check(filled(5, 5, -1000, 1000))
        self.check(every_shape(42, 1000)[-1])
        draw = Random(35)
        for game in LARGE + [STEPS]:
            told = lots_of(game)
            self.check(game, draw.sample(told, min(len(told), 60)))

    def test_numbers_at_the_bounds(self):
        draw = Random(43)
        for _ in range(4):
            game = tuple(tuple(tuple(draw.choice((-1000, 1000, 999, -999, 0)) for _ in range(5)) for _ in range(5))
                         for _ in range(2))
            self.check(game, lots_of(game)[::3] + [((0, 1, 2, 3, 4), (0,)), ((0,), (0, 1, 2, 3, 4))])

    def test_all_lots_have_pairs_where_nothing_differs(self):
        game = filled(5, 5, 0)
        for rows, columns in lots_of(game):
            self.assertIsNotNone(steady_with(game, rows, columns))

    def test_the_lots_of_known_pairs(self):
        half = ((1, 2), (1, 2))
        for rows, columns in lots_of(PENNIES):
            expected = (half, half) if (rows, columns) == ((0, 1), (0, 1)) else None
            self.assertEqual(steady_with(PENNIES, rows, columns), expected)
        everything = (0, 1, 2, 3, 4)
        for rows, columns in lots_of(FULL)[::7] + [(everything, everything)]:
            expected = (parts(1, 1, 1, 1, 1),) * 2 if (rows, columns) == (everything, everything) else None
            self.assertEqual(steady_with(FULL, rows, columns), expected)

    def test_each_steady_pair_shows_that_its_lots_have_one(self):
        for game in drawn_games(80, 36, bounds=(0, 1)):
            one, other = some_steady(game)
            rows = tuple(at for at, chance in enumerate(one) if chance[0])
            columns = tuple(at for at, chance in enumerate(other) if chance[0])
            self.assertEqual(lots_paper(game, rows, columns)[0], "pair")

    def test_both_sides_have_bars(self):
        found = set()
        for game in SMALL:
            for rows, columns in lots_of(game):
                told = lots_paper(game, rows, columns)
                found.add(told[:2] if told[0] == "bar" else "pair")
        self.assertEqual(found, {"pair", ("bar", 0), ("bar", 1)})


class WholePaper(unittest.TestCase):
    def check(self, game):
        told = whole_paper(game)
        expected = lots_of(game)
        self.assertEqual(type(told), list)
        self.assertEqual(len(told), len(expected))
        for (rows, columns), paper in zip(expected, told):
            self.assertTrue(paper_is_right(game, rows, columns, paper), (game, rows, columns, paper))
            self.assertTrue(few_figures(paper))

    def test_small_games(self):
        for game in SMALL:
            self.check(game)

    def test_drawn_games_of_up_to_four(self):
        for game in drawn_games(40, 37, most=4):
            self.check(game)

    def test_games_of_just_four(self):
        for game in drawn_games(120, 38, most=4):
            if size(game, 0) == 4 == size(game, 1):
                self.check(game)

    def test_the_sequence_is_by_number_of_choices_first(self):
        # The only steady pairs are the fields of the diagonal and means of them, all of unlike lots.
        game = (((1, 0, 0), (0, 1, 0), (0, 0, 1)),) * 2
        pairs = [at for at, paper in enumerate(whole_paper(game)) if paper[0] == "pair"]
        told = [(0,), (1,), (2,), (0, 1), (0, 2), (1, 2), (0, 1, 2)]
        self.assertEqual(pairs, [8 * at for at in range(7)])
        for at, paper in enumerate(whole_paper(game)[::8]):
            self.assertEqual(paper[1:], (even_mix(game, 0, told[at]), even_mix(game, 1, told[at])))


class Holds(unittest.TestCase):
    def test_every_bar_of_little_numbers_is_judged_rightly(self):
        found = {True: 0, False: 0}
        for game in (GAME, ALIKE, OBLONG, filled(2, 3, 1), ONE_FIELD, THREE_ROWS):
            for rows, columns in lots_of(game):
                for side in (0, 1):
                    for numbers in product((-2, -1, 0, 1, 2), repeat=size(game, 1 - side)):
                        value = ("bar", side, numbers)
                        told = lots_paper_holds(game, rows, columns, value)
                        self.assertIs(told, bar_is_right(game, rows, columns, value), (game, rows, columns, value))
                        found[told] += 1
        self.assertGreater(min(found.values()), 100)

    def test_each_condition_of_a_bar_by_itself(self):
        # A column is better than another one against each row, whatever the first side gets.
        game = (((0, 0, 0), (0, 0, 0)), ((5, 3, 3), (4, 4, 4)))
        rows, columns = (0, 1), (1, 2)
        self.assertIs(lots_paper_holds(game, rows, columns, ("bar", 0, (1, -1, 0))), True)
        self.assertIs(lots_paper_holds(game, rows, columns, ("bar", 0, (7, -3, -4))), True)
        self.assertIs(lots_paper_holds(game, rows, columns, ("bar", 0, (10 ** 299, -10 ** 299, 0))), True)
        # nought or more where the target has no choice
        self.assertIs(lots_paper_holds(game, rows, (0, 1), ("bar", 0, (1, 0, -1))), False)
        self.assertIs(lots_paper_holds(game, rows, (0, 2), ("bar", 0, (1, 0, -1))), True)
        # they come to 0
        self.assertIs(lots_paper_holds(game, rows, columns, ("bar", 0, (1, 0, 0))), False)
        self.assertIs(lots_paper_holds(game, rows, columns, ("bar", 0, (2, -1, 0))), False)
        # more than 0 for one at least
        self.assertIs(lots_paper_holds(game, rows, columns, ("bar", 0, (0, 1, -1))), False)
        self.assertIs(lots_paper_holds(game, rows, columns, ("bar", 0, (0, 0, 0))), False)
        self.assertIs(lots_paper_holds(game, (1,), columns, ("bar", 0, (1, -1, 0))), False)
        # none less than 0
        worse = (game[0], ((5, 3, 3), (3, 4, 4)))
        self.assertIs(lots_paper_holds(worse, rows, columns, ("bar", 0, (1, -1, 0))), False)
        self.assertIs(lots_paper_holds(worse, (0,), columns, ("bar", 0, (1, -1, 0))), True)
        # of the side that is told
        self.assertIs(lots_paper_holds(game, rows, columns, ("bar", 1, (1, -1, 0))), False)
        self.assertIs(lots_paper_holds(game, rows, columns, ("bar", 1, (1, -1))), False)

    def test_kinds_of_bars(self):
        rows, columns = (0,), (0, 1)
        self.assertIs(lots_paper_holds(GAME, rows, columns, ("bar", 0, (1, -1))), True)
        for value in (["bar", 0, (1, -1)], ("bar", 0, [1, -1]), ("bar", False, (1, -1)), ("bar", 0, (True, -1)),
                      ("bar", 0, (1, -1, 0)), ("bar", 0, (1,)), ("bar", 0, ()), ("bar", 0), ("bar", 0, (1, -1), 0),
                      ("Bar", 0, (1, -1)), ("pair", 0, (1, -1)), (b"bar", 0, (1, -1)), (None, 0, (1, -1)),
                      ("bar", "0", (1, -1)), ("bar", 0, ("1", -1)), ("bar", 0, (1, None)), ("bar", None, (1, -1)),
                      ("bar", 2, (1, -1)), ("bar", -1, (1, -1)), ("bar", -2, (1, -1)), ("bar", 0, None),
                      ("bar", 0, {1: 0}), ("bar", (0,), (1, -1)), ("bar", [0], (1, -1)), ("bar", 0, "ab"),
                      ("bar", 0, ((1, 1), (-1, 1))), (("bar",), 0, (1, -1)), (["bar"], 0, (1, -1))):
            with self.subTest(value=value):
                self.assertIs(lots_paper_holds(GAME, rows, columns, value), False)
        self.assertIs(lots_paper_holds(GAME, (0, 1), (0,), ("bar", 1, (1, -1))), True)
        self.assertIs(lots_paper_holds(GAME, (0, 1), (0,), ("bar", True, (1, -1))), False)

    def test_kinds_of_pairs(self):
        rows = columns = (0, 1)
        one, other = ((3, 5), (2, 5)), ((2, 5), (3, 5))
        self.assertIs(lots_paper_holds(GAME, rows, columns, ("pair", one, other)), True)
        for value in (["pair", one, other], ("pair", list(one), other), ("pair", one, list(other)),
                      ("pair", [(3, 5), (2, 5)], other), ("pair", ([3, 5], (2, 5)), other), ("pair", (one, other)),
                      (one, other), ("pair", one), ("pair", one, other, None), ("bar", one, other),
                      ("pair", other, one), ("pair", one, one), ("pair", ((6, 10), (2, 5)), other),
                      ("pair", one, ((2, 5), (6, 10))), ("pair", ((3, 5), (3, 5)), other), ("pair", None, other),
                      ("pair", one, None), (None, one, other), ("Pair", one, other), ("pairs", one, other),
                      ("pair", one + ((0, 1),), other), ("pair", ((1, 1), (0, 1)), ((1, 1), (0, 1))),
                      ("pair", ((3, 5), (2, 5), (0, 1)), other), ("pair", ((1, 2), (1, 2)), ((1, 2), (1, 2))),
                      ("pair", ((8, 5), (-3, 5)), other), ("pair", 0, 0), ("pair", "ab", "cd"), ("pair", {}, {})):
            with self.subTest(value=value):
                self.assertIs(lots_paper_holds(GAME, rows, columns, value), False)

    def test_lots_are_just_those_of_the_pair(self):
        game = filled(2, 2, 0)
        half, first, second = ((1, 2), (1, 2)), ((1, 1), (0, 1)), ((0, 1), (1, 1))
        mixes = {(0, 1): half, (0,): first, (1,): second}
        for rows, columns in lots_of(game):
            for told_rows, told_columns in lots_of(game):
                value = ("pair", mixes[told_rows], mixes[told_columns])
                expected = (rows, columns) == (told_rows, told_columns)
                self.assertIs(lots_paper_holds(game, rows, columns, value), expected)

    def test_a_pair_is_no_paper_where_it_is_not_steady(self):
        draw = Random(39)
        found = set()
        for game in drawn_games(120, 40, bounds=(0, 1)):
            one, other = drawn_pair(draw, game)
            rows = tuple(at for at, chance in enumerate(one) if chance[0])
            columns = tuple(at for at, chance in enumerate(other) if chance[0])
            told = lots_paper_holds(game, rows, columns, ("pair", one, other))
            self.assertIs(told, steady(game, one, other))
            found.add(told)
        self.assertEqual(found, {True, False})

    def test_long_fractions(self):
        draw = Random(41)
        game = filled(3, 4, 2)
        value = ("pair", long_mix(draw, 3), long_mix(draw, 4))
        self.assertIs(lots_paper_holds(game, (0, 1, 2), (0, 1, 2, 3), value), True)
        self.assertIs(lots_paper_holds(PENNIES, (0, 1), (0, 1), ("pair", NEAR_HALF, ((1, 2), (1, 2)))), False)

    def test_no_other_object(self):
        for value in ANYTHING + [("pair",) + (thing, thing) for thing in ANYTHING] + \
                [("bar", thing, thing) for thing in ANYTHING] + [("bar", 0, thing) for thing in ANYTHING] + \
                [(thing, 0, (1, -1)) for thing in ANYTHING] + [("bar", 0, (thing, -1)) for thing in (True, None, "1")]:
            with self.subTest(value=value):
                self.assertIs(lots_paper_holds(GAME, (0,), (0, 1), value), False)


if __name__ == "__main__":
    unittest.main()
