"""[31] What a table is worth against an enemy; facts W1 and W2."""

import unittest
from fractions import Fraction
from itertools import combinations, product
from random import Random

from steadymixes.blocks import blocks
from steadymixes.errors import InvalidMix, InvalidSide, InvalidTable
from steadymixes.games import is_game
from steadymixes.signs import tie
from steadymixes.steady import is_steady, some_steady
from steadymixes.worths import (against, at_least, at_most, best_mixes, is_table, worth, worth_holds, worth_paper)
from tests.calls import refused
from tests.judges import (ascending, few_figures, good_chances, good_part, lists_in, only_point, part, parts, rank,
                          same, taken, worth as number_of)
from tests.samples import (ANYTHING, GAME, LARGE, LONG, ROCK, SMALL, STEPS, Odd, drawn_games, drawn_mix, every_shape,
                           long_mix, means)

TABLE = ((3, 0), (0, 2))
HALF = ((1, 2), (1, 2))
KNOWN = [
    (TABLE, (6, 5)), (((1, 1), (1, 0)), (1, 1)), (((0,),), (0, 1)), (((-1000,),), (-1000, 1)), (((1000,),), (1000, 1)),
    (((4, -7, 0, 4, 1000),), (-7, 1)), (((4,), (-7,), (0,), (9,), (9,)), (9, 1)), (ROCK[0], (0, 1)),
    (((1, -1), (-1, 1)), (0, 1)), (((1000, -1000), (-1000, 1000)), (0, 1)),
    (((1000, -1000), (-1000, 999)), (-1000, 3999)),
    (((2, 3), (1, 4)), (2, 1)), (((1, 2, 3), (3, 2, 1)), (2, 1)), (((0, 5), (5, 0), (2, 2)), (5, 2)),
    (((7,) * 5,) * 5, (7, 1)), (((-3,) * 4,) * 2, (-3, 1)), (((1, 0, 1), (1, 0, 1)), (0, 1)),
]
TABLES = [table for table, _ in KNOWN] + [table for game in SMALL + LARGE for table in game]


def drawn_tables(many, seed, bounds=(0, 1, 1, 2, 9, 1000)):
    return [game[0] for game in drawn_games(many, seed, bounds=bounds)]


def columns_get(table, one):
    """What the side 0 gets by a mix against each column."""
    return [sum(number_of(chance) * row[column] for chance, row in zip(one, table)) for column in range(len(table[0]))]


def rows_get(table, other):
    """What the side 0 gets by each row against a mix of the side 1."""
    return [sum(number_of(chance) * number for chance, number in zip(other, row)) for row in table]


def shows(table, side, mix, value):
    """Whether a mix of a side lets it get, or lose, at worst a value."""
    return min(columns_get(table, mix)) == value if side == 0 else max(rows_get(table, mix)) == value


def ends_of_best(table, side, value):
    """All best mixes that are the middle of no two others: what is alone with its noughts and its like worths."""
    many = len(table) if side == 0 else len(table[0])
    rows = table if side == 1 else tuple(zip(*table))
    planes = [[1 if at == k else 0 for k in range(many)] + [0] for at in range(many)]
    planes += [[*row, value] for row in rows]
    found = []
    for chosen in combinations(planes, many - 1):
        point = only_point([[1] * many + [1], *chosen])
        if point is not None and min(point) >= 0 and point not in found:
            if shows(table, side, tuple(part(number) for number in point), value):
                found.append(point)
    return [tuple(part(number) for number in point) for point in sorted(found)]


class Example(unittest.TestCase):
    def test_the_document_s_own(self):
        self.assertEqual(worth(((3, 0), (0, 2))), (6, 5))
        self.assertEqual(at_least(((3, 0), (0, 2)), ((1, 2), (1, 2))), (1, 1))
        self.assertEqual(best_mixes(((3, 0), (0, 2)), 0), [((2, 5), (3, 5))])
        self.assertEqual(best_mixes(((1, 1), (1, 0)), 1), [((0, 1), (1, 1)), ((1, 1), (0, 1))])
        self.assertIs(worth_holds(((3, 0), (0, 2)), ((6, 5), ((2, 5), (3, 5)), ((2, 5), (3, 5)))), True)


class Tables(unittest.TestCase):
    def test_those_that_stand_in_games(self):
        for table in TABLES + drawn_tables(20, 501) + [game[1] for game in every_shape(502, 1000)]:
            self.assertIs(is_table(table), True)
            self.assertIs(is_game((table, table)), True)

    def test_objects_that_are_none(self):
        wrong = [GAME, list(TABLE), ([3, 0], [0, 2]), ((3, 0), [0, 2]), ((3, 0), (0,)), ((),), ((), ()), (0, 0),
                 ((1001,),), ((-1001,),), ((True,),), ((0, False),), ((None,),), (("1",),), (((1,),),), ((0,) * 6,),
                 ((0,),) * 6]
        for value in wrong:
            self.assertIs(is_table(value), False)
        for value in ANYTHING:
            self.assertIs(is_table(value), same(value, ((0, 1),)) or same(value, ((1, 1),)))

    def test_against(self):
        self.assertTrue(same(against(TABLE), (TABLE, ((-3, 0), (0, -2)))))
        self.assertTrue(same(against(((1000, -1000, 0),)), (((1000, -1000, 0),), ((-1000, 1000, 0),))))
        self.assertTrue(same(against(((-1000,), (1000,))), (((-1000,), (1000,)), ((1000,), (-1000,)))))
        for table in TABLES + drawn_tables(40, 503):
            told = against(table)
            self.assertIs(is_game(told), True)
            self.assertTrue(same(told, (table, tuple(tuple(-number for number in row) for row in table))))


class LeastAndMost(unittest.TestCase):
    def test_known_ones(self):
        self.assertEqual(at_least(TABLE, ((1, 1), (0, 1))), (0, 1))
        self.assertEqual(at_least(TABLE, ((2, 5), (3, 5))), (6, 5))
        self.assertEqual(at_most(TABLE, ((1, 1), (0, 1))), (3, 1))
        self.assertEqual(at_most(TABLE, HALF), (3, 2))
        self.assertEqual(at_most(TABLE, ((2, 5), (3, 5))), (6, 5))
        self.assertEqual(at_least(((-7, 4),), ((1, 1),)), (-7, 1))
        self.assertEqual(at_most(((-7, 4),), ((1, 3), (2, 3))), (1, 3))
        self.assertEqual(at_most(((-7,), (4,)), ((1, 1),)), (4, 1))

    def test_as_the_judges_tell(self):
        draw = Random(504)
        for table in TABLES + drawn_tables(60, 505):
            one, other = drawn_mix(draw, len(table)), drawn_mix(draw, len(table[0]))
            self.assertTrue(same(at_least(table, one), part(min(columns_get(table, one)))))
            self.assertTrue(same(at_most(table, other), part(max(rows_get(table, other)))))

    def test_long_fractions(self):
        draw = Random(506)
        for table in (TABLE, ROCK[0], STEPS[0], STEPS[1]):
            one, other = long_mix(draw, len(table)), long_mix(draw, len(table[0]))
            self.assertTrue(same(at_least(table, one), part(min(columns_get(table, one)))))
            self.assertTrue(same(at_most(table, other), part(max(rows_get(table, other)))))
            self.assertTrue(few_figures([at_least(ROCK[0], parts(LONG, 1, 1)), at_most(TABLE, parts(1, LONG))]))


class Worths(unittest.TestCase):
    def check(self, table):
        """The paper's mixes show the worth: no mix gets more, and none lets get less."""
        told = worth_paper(table)
        self.assertIs(type(told), tuple)
        value, one, other = told
        self.assertTrue(good_part(value) and few_figures(told))
        self.assertTrue(good_chances(one, len(table)) and good_chances(other, len(table[0])))
        self.assertEqual(min(columns_get(table, one)), number_of(value))
        self.assertEqual(max(rows_get(table, other)), number_of(value))
        self.assertTrue(same(worth(table), value))
        self.assertTrue(same(at_least(table, one), value) and same(at_most(table, other), value))
        self.assertIs(worth_holds(table, told), True)
        return value

    def test_known_ones(self):
        for table, right in KNOWN:
            self.assertEqual(self.check(table), right)

    def test_tables_of_every_shape(self):
        for table in TABLES + [game[0] for bound in (0, 1, 1000) for game in every_shape(507, bound)]:
            self.check(table)
        for table in drawn_tables(120, 508):
            self.check(table)

    def test_all_little_tables(self):
        for numbers in product((-1, 0, 2), repeat=4):
            self.check((numbers[:2], numbers[2:]))
        for numbers in product((0, 1), repeat=6):
            self.check((numbers[:3], numbers[3:]))
            self.check(tuple(zip(numbers[:3], numbers[3:])))

    def test_no_mix_gets_more(self):
        draw = Random(509)
        for table in TABLES + drawn_tables(40, 510):
            value = number_of(worth(table))
            for _ in range(6):
                self.assertLessEqual(number_of(at_least(table, drawn_mix(draw, len(table)))), value)
                self.assertGreaterEqual(number_of(at_most(table, drawn_mix(draw, len(table[0])))), value)

    def test_the_other_way_round(self):
        for table in TABLES + drawn_tables(30, 511):
            above, below = worth(table)
            turned = tuple(tuple(-number for number in row) for row in zip(*table))
            self.assertEqual(worth(turned), (-above, below))
            self.assertTrue(same(best_mixes(turned, 0), best_mixes(table, 1)))


class Holds(unittest.TestCase):
    def test_papers_near_the_right_one(self):
        value, one, other = (6, 5), ((2, 5), (3, 5)), ((2, 5), (3, 5))
        self.assertIs(worth_holds(TABLE, (value, one, other)), True)
        near = part(Fraction(6, 5) + Fraction(1, LONG))
        far_mix = (part(Fraction(2, 5) - Fraction(1, 10 ** 50)), part(Fraction(3, 5) + Fraction(1, 10 ** 50)))
        for paper in (((12, 10), one, other), ((5, 6), one, other), ((-6, 5), one, other), ((1, 1), one, other),
                      (near, one, other), ((1, 1), HALF, other), ((3, 2), one, HALF), (value, HALF, other),
                      (value, one, HALF), (value, far_mix, other), (value, one, far_mix), (value, HALF, HALF),
                      (value, ((3, 5), (2, 5)), other), (value, one, ((3, 5), (2, 5))), ((3, 2), HALF, HALF),
                      (at_least(TABLE, far_mix), far_mix, other), (at_most(TABLE, far_mix), one, far_mix)):
            self.assertIs(worth_holds(TABLE, paper), False, paper)

    def test_any_two_best_mixes_will_do(self):
        table = ((1, 1, 5), (1, 0, 5))
        for other in (parts(1, 0, 0), parts(0, 1, 0), HALF + ((0, 1),), parts(1, LONG, 0)):
            self.assertIs(worth_holds(table, ((1, 1), parts(1, 0), other)), True)
        for one, other in ((parts(0, 1), parts(1, 0, 0)), (parts(1, 1), parts(1, 0, 0)), (parts(1, 0), parts(0, 0, 1)),
                           (parts(1, 0), parts(LONG, 0, 1))):
            self.assertIs(worth_holds(table, ((1, 1), one, other)), False)

    def test_objects_of_all_kinds(self):
        value, one, other = right = worth_paper(TABLE)
        wrong = [list(right), right + (one,), right[:2], (one, other, value), (value, other), ([6, 5], one, other),
                 (value, list(one), other), (value, one, list(other)), ((6, 5, 1), one, other), ((6,), one, other),
                 (value, ([2, 5], (3, 5)), other), (value, one, ((2, 5),)), (value, one + ((0, 1),), other),
                 (value, ((4, 10), (3, 5)), other), ((6, True), one, other), (value, one, ((-2, 5), (7, 5))),
                 ("6/5", one, other), {0: right}, (right,), (value, one, None), (None, one, other),
                 (value, None, other)]
        for paper in wrong + ANYTHING + [GAME, TABLE, Odd()]:
            self.assertIs(worth_holds(TABLE, paper), False, paper)
        for odd in ANYTHING:
            for at in range(3):
                paper = right[:at] + (odd,) + right[at + 1:]
                self.assertIs(worth_holds(TABLE, paper), False)
        self.assertIs(worth_holds(((1,),), ((1, 1), ((1, 1),), ((1, 1),))), True)
        self.assertIs(worth_holds(((1,),), ((True, 1), ((1, 1),), ((1, 1),))), False)
        self.assertIs(worth_holds(((1,),), ((1, 1), ((True, 1),), ((1, 1),))), False)
        self.assertIs(worth_holds(((1,),), ((1, 1), ((1, 1),), ((1, True),))), False)

    def test_papers_of_other_tables(self):
        for table in TABLES[:24]:
            for other in TABLES[:24]:
                paper = worth_paper(other)
                if (len(table), len(table[0])) != (len(other), len(other[0])):
                    self.assertIs(worth_holds(table, paper), False)
                else:
                    value = number_of(paper[0])
                    right = shows(table, 0, paper[1], value) and shows(table, 1, paper[2], value)
                    self.assertIs(worth_holds(table, paper), right)


class Best(unittest.TestCase):
    def check(self, table):
        value = number_of(worth(table))
        for side in (0, 1):
            told = best_mixes(table, side)
            self.assertIs(type(told), list)
            self.assertEqual(len(lists_in(told)), 1)
            self.assertTrue(same(told, ends_of_best(table, side, value)), (table, side))
            self.assertEqual(told, ascending(set(told)))
            for mix in told:
                self.assertTrue(shows(table, side, mix, value))
                self.assertTrue(self.alone(table, side, mix, value))

    def alone(self, table, side, mix, value):
        """Whether no way leads off to both sides, along which a mix stays and stays best."""
        rows = [[1] * len(mix)]
        rows += [[1 if at == k else 0 for k in range(len(mix))] for at, chance in enumerate(mix) if chance == (0, 1)]
        lines = table if side == 1 else tuple(zip(*table))
        numbers = rows_get(table, mix) if side == 1 else columns_get(table, mix)
        rows += [list(line) for line, number in zip(lines, numbers) if number == value]
        return rank(rows) == len(mix)

    def test_known_ones(self):
        first, second = ((1, 1), (0, 1)), ((0, 1), (1, 1))
        self.assertEqual(best_mixes(((1, 1), (1, 0)), 0), [first])
        self.assertEqual(best_mixes(((7, 7), (7, 7)), 0), [second, first])
        self.assertEqual(best_mixes(((1, 2, 3), (3, 2, 1)), 0), [HALF])
        self.assertEqual(best_mixes(((1, 2, 3), (3, 2, 1)), 1), [parts(0, 1, 0), parts(1, 0, 1)])
        self.assertEqual(best_mixes(((0, 5), (5, 0), (2, 2)), 0), [parts(1, 1, 0)])
        self.assertEqual(best_mixes(((0, 4), (4, 0), (2, 2)), 0), [parts(0, 0, 1), parts(1, 1, 0)])
        # The first column wins nothing either way; from one half on the last one wins nothing, too.
        self.assertEqual(best_mixes(((0, 1, 3), (0, 5, -3)), 0), [parts(1, 1), parts(1, 0)])
        self.assertEqual(best_mixes(((-5,),), 0), [((1, 1),)])
        self.assertEqual(best_mixes(((3, 1, 1, 2),), 1), [parts(0, 0, 1, 0), parts(0, 1, 0, 0)])
        self.assertEqual(len(best_mixes(((0,) * 5,) * 5, 1)), 5)

    def test_as_the_judges_tell(self):
        for table in TABLES + drawn_tables(60, 512, bounds=(0, 1, 1, 2, 9)) + drawn_tables(15, 513, bounds=(1000,)):
            self.check(table)

    def test_all_little_tables(self):
        for numbers in product((0, 1, 2), repeat=4):
            self.check((numbers[:2], numbers[2:]))
        for numbers in product((0, 1), repeat=6):
            self.check((numbers[:3], numbers[3:]))

    def test_ascending_is_by_worth(self):
        table = ((0,) * 3, (0,) * 3, (1, -1, 0))
        told = best_mixes(table, 1)
        self.assertEqual(told, [parts(0, 0, 1), parts(0, 1, 0), parts(1, 1, 0)])
        self.assertEqual(best_mixes(((0, 0, 0), (5, 1, -1), (-2, 1, 3)), 1), ends_of_best(
            ((0, 0, 0), (5, 1, -1), (-2, 1, 3)), 1, number_of(worth(((0, 0, 0), (5, 1, -1), (-2, 1, 3))))))


class SteadyPairs(unittest.TestCase):
    def test_they_are_the_pairs_of_best_mixes(self):
        draw = Random(514)
        seen = set()
        for table in TABLES + drawn_tables(60, 515, bounds=(0, 1, 1, 2, 9)):
            game, value = against(table), number_of(worth(table))
            ones, others = best_mixes(table, 0), best_mixes(table, 1)
            for one in means(draw, ones, 2) + [drawn_mix(draw, len(table))]:
                for other in means(draw, others, 2) + [drawn_mix(draw, len(table[0]))]:
                    right = shows(table, 0, one, value) and shows(table, 1, other, value)
                    self.assertIs(is_steady(game, one, other), right)
                    seen.add(right)
            one, other = some_steady(game)
            self.assertTrue(shows(table, 0, one, value) and shows(table, 1, other, value))
        self.assertEqual(seen, {True, False})

    def test_one_block_has_them_all(self):
        for table in TABLES[:20] + drawn_tables(30, 516):
            self.assertEqual(blocks(against(table)), [(tuple(best_mixes(table, 0)), tuple(best_mixes(table, 1)))])
        self.assertIsNone(tie(against(TABLE)))


class Refused(unittest.TestCase):
    def test_in_sequence(self):
        for function in (at_least, at_most):
            for mix in (None, [], HALF, parts(1, 1, 1)):
                error = refused(function, [[TABLE], mix])
                self.assertIs(type(error), InvalidTable)
                self.assertTrue(same(error.value, [TABLE]))
        for side in (None, 2, 0):
            self.assertIs(type(refused(best_mixes, [(TABLE, TABLE), side])), InvalidTable)
        for side in (None, 2, -1, True, False, "0", [0]):
            error = refused(best_mixes, [TABLE, side])
            self.assertIs(type(error), InvalidSide)
            self.assertTrue(same(error.value, side))
        for function in (worth, worth_paper, against):
            self.assertIs(type(refused(function, [GAME])), InvalidTable)
        self.assertIs(type(refused(worth_holds, [GAME, None])), InvalidTable)

    def test_mixes_of_the_other_side(self):
        table = ((1, 2, 3), (4, 5, 6))
        self.assertEqual(at_least(table, HALF), (5, 2))
        self.assertEqual(at_most(table, parts(1, 1, 1)), (5, 1))
        for function, mix in ((at_least, parts(1, 1, 1)), (at_most, HALF), (at_least, HALF[:1]), (at_most, None)):
            error = refused(function, [table, mix])
            self.assertIs(type(error), InvalidMix)
            self.assertTrue(same(error.value, mix))

    def test_what_a_side_gets_by_the_judges_of_games(self):
        draw = Random(517)
        for table in TABLES[:12]:
            other = drawn_mix(draw, len(table[0]))
            self.assertEqual(rows_get(table, other), taken(against(table), 0, other))


if __name__ == "__main__":
    unittest.main()
