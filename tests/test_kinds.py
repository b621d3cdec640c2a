"""[4] Fractions, games, sides, mixes and lots: which objects are such."""

import unittest
from random import Random

from steadymixes.games import even_mix, is_game, is_lot, is_mix, lot
from tests.judges import parts, same
from tests.samples import (ANYTHING, GAME, LARGE, LONG, NEAR_HALF, OBLONG, ONE_COLUMN, ONE_ROW, SMALL, drawn_games,
                           every_shape, filled, long_mix)

ZERO = ((0,),)


class Games(unittest.TestCase):
    def test_games_of_every_shape(self):
        for game in SMALL + LARGE + every_shape(1, 1000) + drawn_games(20, 2):
            self.assertIs(is_game(game), True)

    def test_no_object_of_another_kind(self):
        for value in ANYTHING:
            with self.subTest(value=value):
                self.assertIs(is_game(value), False)

    def test_numbers_at_the_bounds_and_beyond(self):
        for number in (1000, -1000, 0, 999):
            self.assertIs(is_game((((number,),), ZERO)), True)
            self.assertIs(is_game((ZERO, ((number,),))), True)
        for number in (1001, -1001, 10 ** 300, -10 ** 300):
            self.assertIs(is_game((((number,),), ZERO)), False)
            self.assertIs(is_game((ZERO, ((number,),))), False)
            self.assertIs(is_game((((0, 0), (0, number)), ((0, 0), (0, 0)))), False)
            self.assertIs(is_game((((0, 0), (0, 0)), ((0, 0), (number, 0)))), False)

    def test_five_choices_at_most_and_one_at_least(self):
        for rows in range(1, 8):
            for columns in range(1, 8):
                self.assertIs(is_game(filled(rows, columns, 1)), rows <= 5 and columns <= 5)
        for table in ((), ((),), ((), ())):
            self.assertIs(is_game((table, table)), False)
            self.assertIs(is_game((ZERO, table)), False)

    def test_tables_of_unlike_shape(self):
        two, three = (0, 0), (0, 0, 0)
        for tables in (((two, two), (two,)), ((two,), (two, two)), ((two, three), (two, three)),
                       ((two, two), (two, three)), ((two, two), (three, three)), ((three, two), (two, two)),
                       ((two, two, two), (three, three)), ((two, two), (two, two, two)),
                       ((three,), ((0,), (0,), (0,))), ((two, two), (two, ()))):
            with self.subTest(tables=tables):
                self.assertIs(is_game(tables), False)

    def test_lists_in_the_place_of_tuples(self):
        row, table = (0, 0), ((0, 0), (0, 0))
        self.assertIs(is_game((table, table)), True)
        for value in ([table, table], ([row, row], table), (table, [row, row]), (([0, 0], row), table),
                      (table, (row, [0, 0])), [[[0]], [[0]]]):
            with self.subTest(value=value):
                self.assertIs(is_game(value), False)

    def test_true_and_false_in_the_place_of_integers(self):
        for number in (1, 0):
            for wrong in (bool(number), str(number), (number,), [number], None, b"0"):
                with self.subTest(wrong=wrong):
                    self.assertIs(is_game((((wrong,),), ZERO)), False)
                    self.assertIs(is_game((ZERO, ((wrong,),))), False)
                    self.assertIs(is_game((((0, 0), (wrong, 0)), ((0, 0), (0, 0)))), False)
                    self.assertIs(is_game((((0, 0), (0, 0)), ((0, wrong), (0, 0)))), False)
            self.assertIs(is_game((((number,),), ZERO)), True)

    def test_two_tables_and_no_other_number_of_them(self):
        self.assertIs(is_game((ZERO,)), False)
        self.assertIs(is_game((ZERO, ZERO, ZERO)), False)
        self.assertIs(is_game(ZERO), False)
        for wrong in (None, 0, "ab", {}, ((0, 0), 5), ("ab", "cd")):
            self.assertIs(is_game((ZERO, wrong)), False)
            self.assertIs(is_game((wrong, ZERO)), False)
            self.assertIs(is_game((wrong, wrong)), False)


class Mixes(unittest.TestCase):
    def test_mixes_of_each_side(self):
        for mix in (((1, 1), (0, 1)), ((0, 1), (1, 1)), ((1, 2), (1, 2)), ((3, 5), (2, 5)), NEAR_HALF):
            self.assertIs(is_mix(OBLONG, 0, mix), True)
            self.assertIs(is_mix(OBLONG, 1, mix), False)
            self.assertIs(is_mix(OBLONG, 1, mix + ((0, 1),)), True)
            self.assertIs(is_mix(OBLONG, 0, mix + ((0, 1),)), False)
        self.assertIs(is_mix(OBLONG, 1, ((1, 2), (1, 3), (1, 6))), True)

    def test_a_side_with_one_choice_has_one_mix(self):
        self.assertIs(is_mix(ONE_ROW, 0, ((1, 1),)), True)
        self.assertIs(is_mix(ONE_ROW, 1, ((1, 1),)), False)
        self.assertIs(is_mix(ONE_COLUMN, 1, ((1, 1),)), True)
        self.assertIs(is_mix(ONE_COLUMN, 1, ((0, 1),)), False)

    def test_no_object_of_another_kind(self):
        for value in ANYTHING:
            with self.subTest(value=value):
                self.assertIs(is_mix(GAME, 0, value), False)
                self.assertIs(is_mix(GAME, 1, value), False)

    def test_fractions_with_a_common_divisor(self):
        for mix in (((2, 4), (1, 2)), ((1, 2), (2, 4)), ((3, 3), (0, 1)), ((0, 2), (1, 1)), ((1, 1), (0, 7)),
                    ((4, 6), (1, 3)), ((2, 2), (0, 1)), ((0, 0), (1, 1)),
                    ((5 * LONG, 10 * LONG), (1, 2))):
            with self.subTest(mix=mix):
                self.assertIs(is_mix(GAME, 0, mix), False)

    def test_below_is_from_one_on(self):
        for mix in (((-1, -1), (0, 1)), ((1, 1), (0, -1)), ((-1, -2), (1, 2)), ((1, 0), (0, 1)), ((1, 1), (1, 0)),
                    ((1, 2), (-1, -2)), ((0, 1), (0, 0))):
            with self.subTest(mix=mix):
                self.assertIs(is_mix(GAME, 0, mix), False)

    def test_parts_below_nought(self):
        for mix in (((-1, 1), (2, 1)), ((3, 2), (-1, 2)), ((-1, 3), (4, 3)), ((1, -2), (3, 2)),
                    ((LONG + 1, LONG), (-1, LONG))):
            with self.subTest(mix=mix):
                self.assertIs(is_mix(GAME, 0, mix), False)

    def test_parts_that_do_not_come_to_one(self):
        half = (LONG // 2, LONG)
        for mix in (((0, 1), (0, 1)), ((1, 1), (1, 1)), ((1, 2), (1, 3)), ((1, 2), (2, 3)), (half, half),
                    ((1, 2), half), ((1, 1), (1, LONG))):
            with self.subTest(mix=mix):
                self.assertIs(is_mix(GAME, 0, mix), False)

    def test_lists_and_other_kinds_in_the_place_of_tuples_and_integers(self):
        for mix in ([(1, 2), (1, 2)], ([1, 2], (1, 2)), ((1, 2), [1, 2]), ((True, 1), (0, 1)), ((1, True), (0, 1)),
                    ((1, 1), (False, 1)), ((1, 1), (0, True)), (1, 0), (1, (0, 1)), ((1, 1), None), ((1, 1), "01"),
                    ((1, 1, 1), (0, 1)), ((1,), (0, 1)), ((1, 1), ()), ((1, 1), ("0", 1)), ("11", "01"),
                    {0: (1, 1), 1: (0, 1)}):
            with self.subTest(mix=mix):
                self.assertIs(is_mix(GAME, 0, mix), False)
                self.assertIs(is_mix(GAME, 1, mix), False)

    def test_fractions_of_300_figures(self):
        draw = Random(3)
        for game in every_shape(4, 9):
            mix = long_mix(draw, len(game[0]))
            self.assertIs(is_mix(game, 0, mix), True)
            above, below = mix[-1]
            self.assertIs(is_mix(game, 0, mix[:-1] + ((above + below, below),)), False)
            self.assertIs(is_mix(game, 0, mix[:-1] + ((2 * above, 2 * below),)), False)


class Lots(unittest.TestCase):
    def test_lots_of_each_side(self):
        for value in ((0,), (1,), (0, 1)):
            self.assertIs(is_lot(OBLONG, 0, value), True)
            self.assertIs(is_lot(OBLONG, 1, value), True)
        for value in ((2,), (0, 2), (1, 2), (0, 1, 2)):
            self.assertIs(is_lot(OBLONG, 0, value), False)
            self.assertIs(is_lot(OBLONG, 1, value), True)
        self.assertIs(is_lot(ONE_ROW, 1, (0, 1, 2, 3, 4)), True)
        self.assertIs(is_lot(ONE_ROW, 0, (0,)), True)
        self.assertIs(is_lot(ONE_ROW, 0, (1,)), False)

    def test_no_other_object(self):
        for value in [(), (1, 0), (0, 0), (1, 1), (0, 1, 1), (0, 0, 1), (-1,), (-1, 0), (3,), (2, 3), (0, 1, 2, 3),
                      [0], [0, 1], (True,), (False,), (0, True), (False, 1), ("0",), (None,), ((0,),), ([0],), 0,
                      "01", {0: 1}, {0}, None, (0, None), (0, "1"), (10 ** 300,), (0, 2, 1), b"\x00"]:
            with self.subTest(value=value):
                self.assertIs(is_lot(OBLONG, 1, value), False)
        for value in ANYTHING:
            with self.subTest(value=value):
                self.assertIs(is_lot(GAME, 0, value), same(value, (0, 1)) or same(value, (1,)))

    def test_the_lot_of_a_mix(self):
        self.assertEqual(lot(OBLONG, 1, ((1, 2), (0, 1), (1, 2))), (0, 2))
        self.assertEqual(lot(OBLONG, 0, ((0, 1), (1, 1))), (1,))
        self.assertEqual(lot(OBLONG, 1, ((1, 3), (1, 3), (1, 3))), (0, 1, 2))
        self.assertEqual(lot(GAME, 0, ((LONG - 1, LONG), (1, LONG))), (0, 1))
        self.assertEqual(lot(ONE_ROW, 0, ((1, 1),)), (0,))

    def test_the_even_mix_of_a_lot(self):
        self.assertEqual(even_mix(OBLONG, 1, (0, 2)), ((1, 2), (0, 1), (1, 2)))
        self.assertEqual(even_mix(OBLONG, 0, (1,)), ((0, 1), (1, 1)))
        self.assertEqual(even_mix(ONE_ROW, 0, (0,)), ((1, 1),))
        self.assertEqual(even_mix(ONE_ROW, 1, (0, 1, 3, 4)), ((1, 4), (1, 4), (0, 1), (1, 4), (1, 4)))
        self.assertEqual(even_mix(ONE_COLUMN, 0, (0, 1, 2, 3, 4)), parts(1, 1, 1, 1, 1))

    def test_each_lot_is_the_lot_of_its_even_mix(self):
        for value in ((0,), (1,), (2,), (0, 1), (0, 2), (1, 2), (0, 1, 2)):
            mix = even_mix(OBLONG, 1, value)
            self.assertIs(is_mix(OBLONG, 1, mix), True)
            self.assertEqual(lot(OBLONG, 1, mix), value)


if __name__ == "__main__":
    unittest.main()
