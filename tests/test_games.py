"""[5], [6], [10] What sides get, best choices, heights, gains, and games made of others."""

import unittest
from fractions import Fraction
from random import Random

from steadymixes.errors import InvalidGame, InvalidNumber
from steadymixes.games import best, even_mix, gains, gets, height, is_game, lot, moved, turned, without
from tests.judges import best_of, good_part, got, height_of, lot_of, number_at, part, parts, size, taken, worth
from tests.samples import (ALIKE, GAME, LARGE, LONG, OBLONG, ONE_COLUMN, ONE_FIELD, ONE_ROW, PENNIES, SMALL,
                           drawn_games, drawn_pair, every_shape, filled, long_mix)


def games_and_pairs():
    draw = Random(5)
    told = [(game, *drawn_pair(draw, game)) for game in SMALL + LARGE + drawn_games(60, 6) + every_shape(7, 1000)]
    for game in every_shape(8, 1000):
        told.append((game, long_mix(draw, size(game, 0)), long_mix(draw, size(game, 1))))
    return told


class Example(unittest.TestCase):
    def test_the_document_s_own(self):
        game = (((3, 0), (0, 2)), ((2, 0), (0, 3)))
        one, other = ((3, 5), (2, 5)), ((2, 5), (3, 5))
        self.assertEqual(gets(game, one, other), ((6, 5), (6, 5)))
        self.assertEqual(best(game, 0, other), (0, 1))
        self.assertEqual(height(game, 0, one), (6, 5))
        self.assertEqual(gains(game, ((1, 1), (0, 1)), other), ((0, 1), (6, 5)))
        self.assertEqual(turned(game), (((2, 0), (0, 3)), ((3, 0), (0, 2))))
        self.assertEqual(moved(game, 0, 1, 4)[0], ((3, 4), (0, 6)))


class Getting(unittest.TestCase):
    def test_what_each_side_gets_by_a_field(self):
        for row in range(2):
            for column in range(3):
                told = gets(OBLONG, even_mix(OBLONG, 0, (row,)), even_mix(OBLONG, 1, (column,)))
                self.assertEqual(told, ((OBLONG[0][row][column], 1), (OBLONG[1][row][column], 1)))

    def test_what_each_side_gets_by_mixes(self):
        self.assertEqual(gets(OBLONG, ((1, 2), (1, 2)), ((1, 3), (1, 3), (1, 3))), ((7, 3), (1, 1)))
        self.assertEqual(gets(PENNIES, ((1, 2), (1, 2)), ((1, 3), (2, 3))), ((0, 1), (0, 1)))
        self.assertEqual(gets(PENNIES, ((1, 4), (3, 4)), ((1, 3), (2, 3))), ((1, 6), (-1, 6)))
        self.assertEqual(gets(ONE_FIELD, ((1, 1),), ((1, 1),)), ((-1000, 1), (1000, 1)))

    def test_it_is_the_sum_over_all_fields(self):
        for game, one, other in games_and_pairs():
            told = gets(game, one, other)
            for side in (0, 1):
                self.assertTrue(good_part(told[side]))
                self.assertEqual(worth(told[side]), got(game, side, (one, other)))
            self.assertEqual((type(told), len(told)), (tuple, 2))

    def test_the_best_choices(self):
        self.assertEqual(best(OBLONG, 0, ((1, 1), (0, 1), (0, 1))), (0,))
        self.assertEqual(best(OBLONG, 0, ((0, 1), (0, 1), (1, 1))), (0, 1))
        self.assertEqual(best(OBLONG, 0, ((1, 2), (1, 2), (0, 1))), (0, 1))
        self.assertEqual(best(OBLONG, 0, ((0, 1), (1, 1), (0, 1))), (1,))
        self.assertEqual(best(OBLONG, 1, ((0, 1), (1, 1))), (0,))
        self.assertEqual(best(OBLONG, 1, ((1, 1), (0, 1))), (1,))
        self.assertEqual(best(OBLONG, 1, ((1, 3), (2, 3))), (0,))
        self.assertEqual(best(OBLONG, 1, ((1, 2), (1, 2))), (0, 1, 2))
        self.assertEqual(best(ONE_ROW, 1, ((1, 1),)), (1, 3, 4))
        self.assertEqual(best(ONE_ROW, 0, parts(1, 1, 1, 1, 1)), (0,))
        self.assertEqual(best(filled(5, 5, 0), 1, parts(1, 0, 0, 2, 0)), (0, 1, 2, 3, 4))

    def test_the_best_choices_are_judged_exactly(self):
        half = (LONG - 1) // 2
        near = ((half + 1, LONG), (half, LONG))
        self.assertEqual(best(PENNIES, 0, near), (0,))
        self.assertEqual(best(PENNIES, 1, near), (1,))
        self.assertEqual(best(PENNIES, 1, near[::-1]), (0,))
        self.assertEqual(height(PENNIES, 0, near), (1, LONG))

    def test_best_choices_and_heights_of_many_games(self):
        for game, one, other in games_and_pairs():
            for side, mix in ((0, one), (1, other)):
                self.assertEqual(best(game, 1 - side, mix), best_of(game, 1 - side, mix))
                self.assertTrue(good_part(height(game, side, mix)))
                self.assertEqual(worth(height(game, side, mix)), height_of(game, side, mix))

    def test_heights_below_nought_and_of_each_side(self):
        self.assertEqual(height(ONE_FIELD, 1, ((1, 1),)), (-1000, 1))
        self.assertEqual(height(ONE_FIELD, 0, ((1, 1),)), (1000, 1))
        self.assertEqual(height(OBLONG, 1, ((1, 3), (1, 3), (1, 3))), (7, 3))
        self.assertEqual(height(OBLONG, 0, ((1, 4), (3, 4))), (3, 2))
        self.assertEqual(height(filled(2, 3, 0, -7), 0, ((1, 4), (3, 4))), (-7, 1))

    def test_gains(self):
        self.assertEqual(gains(PENNIES, ((1, 1), (0, 1)), ((0, 1), (1, 1))), ((2, 1), (0, 1)))
        self.assertEqual(gains(PENNIES, ((1, 1), (0, 1)), ((1, 1), (0, 1))), ((0, 1), (2, 1)))
        self.assertEqual(gains(PENNIES, ((1, 2), (1, 2)), ((1, 2), (1, 2))), ((0, 1), (0, 1)))
        self.assertEqual(gains(OBLONG, ((0, 1), (1, 1)), ((1, 1), (0, 1), (0, 1))), ((4, 1), (0, 1)))

    def test_gains_of_many_games(self):
        for game, one, other in games_and_pairs():
            told = gains(game, one, other)
            self.assertEqual((type(told), len(told)), (tuple, 2))
            for side, theirs in ((0, other), (1, one)):
                most = max(taken(game, side, theirs))
                self.assertTrue(good_part(told[side]))
                self.assertEqual(worth(told[side]), most - got(game, side, (one, other)))

    def test_lots_of_many_mixes(self):
        for game, one, other in games_and_pairs():
            self.assertEqual(lot(game, 0, one), lot_of(one))
            self.assertEqual(lot(game, 1, other), lot_of(other))


class Turned(unittest.TestCase):
    def test_each_side_gets_what_the_other_got(self):
        for game in SMALL + LARGE + every_shape(9, 1000):
            told = turned(game)
            self.assertIs(is_game(told), True)
            self.assertEqual((size(told, 0), size(told, 1)), (size(game, 1), size(game, 0)))
            for side in (0, 1):
                for own in range(size(game, side)):
                    for theirs in range(size(game, 1 - side)):
                        self.assertEqual(number_at(told, 1 - side, own, theirs), number_at(game, side, own, theirs))
            self.assertEqual(turned(told), game)

    def test_oblong(self):
        self.assertEqual(turned(OBLONG), (((0, 2), (3, -1), (1, 1)), ((5, 1), (0, 4), (2, 2))))


class Moved(unittest.TestCase):
    def test_each_side(self):
        self.assertEqual(moved(OBLONG, 0, 2, 10), (((5, 0, 12), (1, 4, 12)), OBLONG[1]))
        self.assertEqual(moved(OBLONG, 0, 0, -3), (((2, 0, 2), (-2, 4, 2)), OBLONG[1]))
        self.assertEqual(moved(OBLONG, 1, 1, 5), (OBLONG[0], ((0, 3, 1), (7, 4, 6))))
        self.assertEqual(moved(OBLONG, 1, 0, -1), (OBLONG[0], ((-1, 2, 0), (2, -1, 1))))
        self.assertEqual(moved(OBLONG, 1, 0, 0), OBLONG)

    def test_best_choices_and_gains_stay(self):
        draw = Random(10)
        for game in every_shape(11, 500):
            one, other = drawn_pair(draw, game)
            for side, theirs in ((0, other), (1, one)):
                choice = draw.randrange(size(game, 1 - side))
                told = moved(game, side, choice, draw.randint(-500, 500))
                self.assertIs(is_game(told), True)
                self.assertEqual(best(told, side, theirs), best(game, side, theirs))
                self.assertEqual(gains(told, one, other), gains(game, one, other))

    def test_up_to_the_bounds_and_beyond(self):
        self.assertEqual(moved(ONE_FIELD, 0, 0, 2000), (((1000,),), ((1000,),)))
        self.assertEqual(moved(ONE_FIELD, 1, 0, -2000), (((-1000,),), ((-1000,),)))
        for side, number, value in ((0, 2001, (((1001,),), ((1000,),))), (0, -1, (((-1001,),), ((1000,),))),
                                    (1, 1, (((-1000,),), ((1001,),))), (1, -2001, (((-1000,),), ((-1001,),))),
                                    (1, 10 ** 300, (((-1000,),), ((10 ** 300 + 1000,),)))):
            with self.assertRaises(InvalidGame) as caught:
                moved(ONE_FIELD, side, 0, number)
            self.assertEqual(caught.exception.value, value)

    def test_the_whole_game_that_would_come_is_told(self):
        with self.assertRaises(InvalidGame) as caught:
            moved(OBLONG, 0, 1, 997)
        self.assertEqual(caught.exception.value, (((5, 997, 2), (1, 1001, 2)), OBLONG[1]))
        with self.assertRaises(InvalidGame) as caught:
            moved(OBLONG, 1, 0, -1001)
        self.assertEqual(caught.exception.value, (OBLONG[0], ((-1001, -998, -1000), (2, -1, 1))))

    def test_choices_are_those_of_the_other_side(self):
        for side, choice in ((0, 3), (0, -1), (1, 2), (1, -1), (1, 3), (0, 10 ** 300)):
            with self.assertRaises(InvalidNumber) as caught:
                moved(OBLONG, side, choice, 10 ** 6)
            self.assertEqual(caught.exception.value, choice)
        self.assertEqual(moved(OBLONG, 0, 2, 0), OBLONG)


class Without(unittest.TestCase):
    def test_each_side(self):
        self.assertEqual(without(OBLONG, 0, 0), (((1, 4, 2),), ((2, -1, 1),)))
        self.assertEqual(without(OBLONG, 0, 1), (((5, 0, 2),), ((0, 3, 1),)))
        self.assertEqual(without(OBLONG, 1, 0), (((0, 2), (4, 2)), ((3, 1), (-1, 1))))
        self.assertEqual(without(OBLONG, 1, 1), (((5, 2), (1, 2)), ((0, 1), (2, 1))))
        self.assertEqual(without(OBLONG, 1, 2), (((5, 0), (1, 4)), ((0, 3), (2, -1))))
        self.assertEqual(without(ALIKE, 1, 1), (((1,), (1,)), ((1,), (1,))))

    def test_every_choice_of_many_games(self):
        for game in every_shape(12, 1000):
            for side in (0, 1):
                for choice in range(size(game, side)):
                    if size(game, side) == 1:
                        self.assertRaises(InvalidNumber, without, game, side, choice)
                        continue
                    told = without(game, side, choice)
                    self.assertIs(is_game(told), True)
                    left = [at for at in range(size(game, side)) if at != choice]
                    for at, own in enumerate(left):
                        for theirs in range(size(game, 1 - side)):
                            self.assertEqual(number_at(told, side, at, theirs), number_at(game, side, own, theirs))
                            self.assertEqual(number_at(told, 1 - side, theirs, at),
                                             number_at(game, 1 - side, theirs, own))

    def test_choices_that_are_none(self):
        for game, side, choice in ((OBLONG, 0, 2), (OBLONG, 0, -1), (OBLONG, 1, 3), (OBLONG, 1, -1), (ONE_ROW, 0, 0),
                                   (ONE_ROW, 0, 1), (ONE_ROW, 1, 5), (ONE_COLUMN, 1, 0), (ONE_FIELD, 1, 0),
                                   (GAME, 0, 10 ** 300)):
            with self.assertRaises(InvalidNumber) as caught:
                without(game, side, choice)
            self.assertEqual(caught.exception.value, choice)


class Fractions(unittest.TestCase):
    def test_they_are_told_in_lowest_terms(self):
        game = filled(2, 2, 6, 0)
        self.assertEqual(gets(game, ((1, 6), (5, 6)), ((1, 4), (3, 4))), ((6, 1), (0, 1)))
        self.assertEqual(height(game, 1, ((1, 6), (5, 6))), (6, 1))
        self.assertEqual(height(game, 0, ((1, 6), (5, 6))), (0, 1))
        self.assertEqual(even_mix(filled(4, 1, 0), 0, (0, 1, 2, 3)), (part(1, 4),) * 4)
        self.assertEqual(worth(gains(GAME, ((1, 2), (1, 2)), ((2, 5), (3, 5)))[0]), Fraction(0))


if __name__ == "__main__":
    unittest.main()
