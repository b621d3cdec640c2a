"""[32] Choices that a mix beats, and what is left when they are struck out; facts D1 and D2."""

import unittest
from fractions import Fraction
from functools import lru_cache
from random import Random

from steadymixes.blocks import blocks
from steadymixes.errors import InvalidGame, InvalidMix, InvalidNumber, InvalidSide
from steadymixes.games import turned, without
from steadymixes.striking import beaten_by, beats, best_against, left, steady_left, strikes, strikes_hold
from tests.calls import refused
from tests.judges import (all_corners, best_of, few_figures, good_chances, lists_in, lot_of, number_at, part, parts,
                          same, size, worths)
from tests.samples import (ALIKE, ANYTHING, CLEAR, GAME, LARGE, LONG, OBLONG, ONE_COLUMN, ONE_FIELD, ONE_ROW, PENNIES,
                           ROCK, SMALL, TWOFOLD, drawn_games, drawn_mix, every_shape, filled, games_of_two, long_mix)

# The third row is beaten by both others by halves, and by neither alone; then the columns go on.
BOTH = (((4, 0), (0, 4), (1, 1)), ((1, 2), (3, 1), (0, 5)))
HALVES = ((1, 2), (1, 2), (0, 1))
# Struck one behind the other, a row and a column by turns, until one field is left.
CHAIN = (
    tuple(tuple(row if row <= column + 1 else -row for column in range(5)) for row in range(5)),
    tuple(tuple(column if column <= row else -column for column in range(5)) for row in range(5)),
)
# A prisoners' dilemma, and a game in which a struck row lets a column be struck, and that a row.
DILEMMA = (((2, 0), (3, 1)), ((2, 3), (0, 1)))
STAIRS = (((1, 0, 1), (2, 2, 1), (1, 1, 0)), ((1, 2, 0), (4, 3, 1), (0, 0, 9)))
GAMES = [BOTH, CHAIN, DILEMMA, STAIRS, turned(BOTH), turned(CHAIN), turned(STAIRS)]


def is_beaten(game, side, mix, choice, against):
    """Whether a mix gets more than a choice against each of some choices of the other side."""
    for their in against:
        got = sum(chance * number_at(game, side, own, their) for own, chance in enumerate(worths(mix)))
        if got <= number_at(game, side, choice, their):
            return False
    return True


def part_game(game, lots):
    return tuple(tuple(tuple(table[row][column] for column in lots[1]) for row in lots[0]) for table in game)


def ever_best(game, side):
    """The choices of a side that are best against some mix: then against some corner, too."""
    return {choice for corner in all_corners(game, 1 - side) for choice in best_of(game, side, corner)}


@lru_cache(maxsize=None)
def what_is_left(game):
    """The lots that are left, all choices that are never best being taken out at once, again and again."""
    lots = tuple(range(size(game, 0))), tuple(range(size(game, 1)))
    while True:
        part = part_game(game, lots)
        kept = tuple(tuple(lots[side][at] for at in sorted(ever_best(part, side))) for side in (0, 1))
        if kept == lots:
            return lots
        lots = kept


def strikes_are_right(game, value):
    """Whether a value is a list of strikes up to the end."""
    if type(value) is not list:
        return False
    lots = [list(range(size(game, side))) for side in (0, 1)]
    for strike in value:
        if type(strike) is not tuple or len(strike) != 3:
            return False
        side, choice, mix = strike
        if type(side) is not int or side not in (0, 1) or type(choice) is not int or choice not in lots[side]:
            return False
        if not good_chances(mix, size(game, side)) or not set(lot_of(mix)) <= set(lots[side]):
            return False
        if not is_beaten(game, side, mix, choice, lots[1 - side]):
            return False
        lots[side].remove(choice)
    return tuple(map(tuple, lots)) == what_is_left(game)


def mean_with(mix, choice, above, below):
    """The mix between a mix and a choice alone, with so much for the mix."""
    share = Fraction(above, below)
    return tuple(part(share * number + (1 - share) * (at == choice)) for at, number in enumerate(worths(mix)))


class Example(unittest.TestCase):
    def test_the_document_s_own(self):
        game = (((4, 0), (0, 4), (1, 1)), ((1, 2), (3, 1), (0, 5)))
        self.assertIs(beats(game, 0, ((1, 2), (1, 2), (0, 1)), 2), True)
        self.assertIsNone(beaten_by(game, 0, 0))
        self.assertIsNone(best_against(game, 0, 2))
        self.assertEqual(left(game), ((0, 1), (0, 1)))
        self.assertIs(strikes_hold(game, [(0, 2, ((1, 2), (1, 2), (0, 1)))]), True)


class Beats(unittest.TestCase):
    def test_known_ones(self):
        self.assertIs(beats(DILEMMA, 0, ((0, 1), (1, 1)), 0), True)
        self.assertIs(beats(DILEMMA, 0, ((1, 1), (0, 1)), 1), False)
        self.assertIs(beats(DILEMMA, 1, ((0, 1), (1, 1)), 0), True)
        self.assertIs(beats(DILEMMA, 0, ((1, 2), (1, 2)), 0), True)
        self.assertIs(beats(DILEMMA, 0, ((LONG - 1, LONG), (1, LONG)), 0), True)
        for side in (0, 1):
            for choice in (0, 1):
                self.assertIs(beats(DILEMMA, side, parts(1 - choice, choice), choice), False)

    def test_as_much_is_not_more(self):
        self.assertIs(beats(BOTH, 0, parts(1, 1, 0), 2), True)
        self.assertIs(beats(BOTH, 0, parts(1, 3, 0), 2), False)
        self.assertIs(beats(BOTH, 0, parts(3, 1, 0), 2), False)
        self.assertIs(beats(BOTH, 0, parts(LONG // 4 + 1, LONG - LONG // 4 - 1, 0), 2), True)
        self.assertIs(beats(BOTH, 0, parts(1, 1, 20), 2), True)
        self.assertIs(beats(BOTH, 0, parts(0, 0, 1), 2), False)
        self.assertIs(beats((((1, 1), (0, 1)), ((0, 0), (0, 0))), 0, parts(1, 0), 1), False)
        self.assertIs(beats((((1, 2), (0, 1)), ((0, 0), (0, 0))), 0, parts(1, 0), 1), True)

    def test_as_the_judges_tell(self):
        draw = Random(601)
        found = {True: 0, False: 0}
        for game in GAMES + SMALL + LARGE[:2] + drawn_games(120, 602):
            for side in (0, 1):
                for _ in range(3):
                    mix, choice = drawn_mix(draw, size(game, side)), draw.randrange(size(game, side))
                    told = beats(game, side, mix, choice)
                    self.assertIs(told, is_beaten(game, side, mix, choice, range(size(game, 1 - side))))
                    found[told] += 1
        self.assertGreater(min(found.values()), 40)

    def test_long_fractions(self):
        draw = Random(603)
        for game in GAMES + [STAIRS]:
            mix = long_mix(draw, size(game, 0))
            for choice in range(size(game, 0)):
                self.assertIs(beats(game, 0, mix, choice), is_beaten(game, 0, mix, choice, range(size(game, 1))))


class EitherOr(unittest.TestCase):
    def check(self, game):
        """Of each choice there is a mix that beats it, or one against which it is best, and never both."""
        beaten = 0
        for side in (0, 1):
            right = ever_best(game, side)
            for choice in range(size(game, side)):
                mix, shown = beaten_by(game, side, choice), best_against(game, side, choice)
                self.assertIs(mix is None, choice in right)
                self.assertIs(shown is None, choice not in right)
                self.assertTrue(few_figures([mix, shown]))
                if mix is not None:
                    self.assertTrue(good_chances(mix, size(game, side)))
                    self.assertTrue(is_beaten(game, side, mix, choice, range(size(game, 1 - side))))
                    self.assertIs(beats(game, side, mix, choice), True)
                    beaten += 1
                else:
                    self.assertTrue(good_chances(shown, size(game, 1 - side)))
                    self.assertIn(choice, best_of(game, side, shown))
        return beaten

    def test_known_ones(self):
        self.assertEqual(beaten_by(DILEMMA, 0, 0), parts(0, 1))
        self.assertEqual(self.check(DILEMMA), 2)
        self.assertEqual(self.check(BOTH), 1)
        self.assertEqual(self.check(ONE_FIELD), 0)
        self.assertEqual(self.check(ONE_ROW), 2)
        self.assertEqual(self.check(ONE_COLUMN), 2)
        self.assertEqual(self.check(filled(5, 5, 0)), 0)
        self.assertEqual(best_against(DILEMMA, 0, 0), None)

    def test_beaten_by_a_mix_and_by_no_single_choice(self):
        for game, side in ((BOTH, 0), (turned(BOTH), 1)):
            mix = beaten_by(game, side, 2)
            self.assertGreater(len(lot_of(mix)), 1)
            for other in range(3):
                self.assertIs(beats(game, side, parts(*[int(at == other) for at in range(3)]), 2), False)
        five = (((8, 0, 0, 0), (0, 8, 0, 0), (0, 0, 8, 0), (0, 0, 0, 8), (1, 1, 1, 1)), filled(5, 4, 0)[0])
        self.assertEqual(len(lot_of(beaten_by(five, 0, 4))), 4)
        self.assertIsNone(best_against(five, 0, 4))
        five = (five[0][:4] + ((2, 2, 2, 2),), five[1])
        self.assertIsNone(beaten_by(five, 0, 4))
        self.assertEqual(best_against(five, 0, 4), parts(1, 1, 1, 1))

    def test_many_games(self):
        for game in GAMES + SMALL + LARGE[:4] + every_shape(607, 9):
            self.check(game)
        self.assertGreater(sum(self.check(game) for game in drawn_games(80, 608)), 40)

    def test_all_little_games_of_two(self):
        self.assertGreater(sum(self.check(game) for game in games_of_two((0, 1))), 40)

    def test_like_choices_do_not_beat_each_other(self):
        game = (((1, 2), (1, 2), (1, 2)), ((5, 5), (5, 5), (5, 5)))
        self.assertEqual(self.check(game), 0)
        game = (((1, 2), (1, 2), (0, 1)), ((5, 5), (5, 5), (5, 5)))
        self.assertEqual(self.check(game), 1)


class Left(unittest.TestCase):
    def test_known_ones(self):
        self.assertEqual(left(DILEMMA), ((1,), (1,)))
        self.assertEqual(left(CHAIN), ((4,), (4,)))
        self.assertEqual([strike[:2] for strike in strikes(CHAIN)], [(side, at) for at in range(4) for side in (0, 1)])
        self.assertEqual(left(STAIRS), ((1,), (0,)))
        self.assertEqual(left(GAME), ((0, 1), (0, 1)))
        self.assertEqual(left(ALIKE), ((0, 1), (0, 1)))
        self.assertEqual(left(ONE_ROW), ((0,), (1, 3, 4)))
        self.assertEqual(left(ONE_COLUMN), ((1, 3, 4), (0,)))
        self.assertEqual(left(filled(5, 4, 7)), ((0, 1, 2, 3, 4), (0, 1, 2, 3)))

    def test_as_the_judges_tell(self):
        lengths = set()
        for game in GAMES + SMALL + LARGE + every_shape(607, 9) + drawn_games(80, 608):
            told = left(game)
            self.assertTrue(same(told, what_is_left(game)), game)
            self.assertEqual(left(turned(game)), told[::-1])
            lengths.add(len(strikes(game)))
        self.assertLessEqual({0, 1, 2, 3, 4, 5, 6, 8}, lengths)

    def test_whatever_the_sequence(self):
        draw = Random(609)
        for game in GAMES + drawn_games(60, 610, bounds=(2, 9, 1000)):
            right = left(game)
            for _ in range(3):
                rest, lots = game, [list(range(size(game, side))) for side in (0, 1)]
                while True:
                    beaten = [(side, choice) for side in (0, 1) for choice in range(size(rest, side))
                              if beaten_by(rest, side, choice) is not None]
                    if not beaten:
                        break
                    side, choice = draw.choice(beaten)
                    rest = without(rest, side, choice)
                    del lots[side][choice]
                self.assertEqual(tuple(map(tuple, lots)), right)


class Strikes(unittest.TestCase):
    def test_they_hold(self):
        for game in GAMES + SMALL + LARGE + every_shape(607, 9) + drawn_games(80, 608):
            told = strikes(game)
            self.assertTrue(strikes_are_right(game, told), game)
            self.assertIs(strikes_hold(game, told), True)
            self.assertEqual(len(lists_in(told)), 1)
            self.assertTrue(few_figures(told))
            lots = left(game)
            self.assertEqual(len(told), sum(size(game, side) - len(lots[side]) for side in (0, 1)))

    def test_known_ones(self):
        self.assertEqual(strikes(GAME), [])
        self.assertEqual([strike[:2] for strike in strikes(BOTH)], [(0, 2)])
        self.assertEqual({strike[:2] for strike in strikes(DILEMMA)}, {(0, 0), (1, 0)})
        self.assertIs(strikes_hold(GAME, []), True)
        self.assertIs(strikes_hold(BOTH, []), False)

    def test_any_sequence_will_do(self):
        first, second = (0, 0, parts(0, 1)), (1, 0, parts(0, 1))
        self.assertIs(strikes_hold(DILEMMA, [first, second]), True)
        self.assertIs(strikes_hold(DILEMMA, [second, first]), True)
        # A mix may have the choice itself in its lot.
        self.assertIs(strikes_hold(DILEMMA, [(0, 0, parts(9, 1)), second]), True)
        self.assertIs(strikes_hold(DILEMMA, [second, (0, 0, (part(LONG - 1, LONG), part(1, LONG)))]), True)
        self.assertIs(strikes_hold(DILEMMA, [second, (0, 0, parts(1, 0))]), False)

    def test_lists_that_end_too_early_or_too_late(self):
        for game in GAMES + [game for game in drawn_games(120, 613, bounds=(2, 9, 1000)) if strikes(game)]:
            told = strikes(game)
            for length in range(len(told)):
                self.assertIs(strikes_hold(game, told[:length]), False)
            for again in told:
                self.assertIs(strikes_hold(game, told + [again]), False)
            for side in (0, 1):
                for choice in left(game)[side]:
                    mix = parts(*[int(own in left(game)[side]) for own in range(size(game, side))])
                    self.assertIs(strikes_hold(game, told + [(side, choice, mix)]), False)

    def test_lists_that_strike_what_is_struck(self):
        first, second = (0, 0, parts(0, 1)), (1, 0, parts(0, 1))
        for wrong in ([first, first], [first, first, second], [first, second, first], [first, second, second],
                      [first, (0, 1, parts(1, 0)), second], [first, second, (0, 1, parts(0, 1))]):
            self.assertIs(strikes_hold(DILEMMA, wrong), False)

    def test_a_mix_with_something_on_what_is_struck(self):
        game = (((3, 3), (1, 1), (0, 0)), ((0, 0), (0, 0), (0, 0)))
        right = [(0, 1, parts(1, 0, 0)), (0, 2, parts(1, 0, 0))]
        self.assertIs(strikes_hold(game, right), True)
        self.assertIs(strikes_hold(game, right[::-1]), True)
        self.assertIs(strikes_hold(game, [right[1], (0, 1, parts(5, 1, 0))]), True)
        self.assertIs(strikes_hold(game, [right[0], (0, 2, parts(0, 1, 0))]), False)
        self.assertIs(strikes_hold(game, [right[0], (0, 2, parts(LONG, 1, 0))]), False)
        self.assertIs(strikes_hold(game, [(0, 2, parts(0, 1, 0)), right[0]]), True)
        self.assertIs(strikes_hold(game, [right[1], (0, 1, parts(LONG, 0, 1))]), False)

    def test_a_choice_beaten_only_where_others_are_struck(self):
        # The first row is beaten against the first column alone; against both it is not.
        game = (((1, 9), (2, 3)), ((5, 4), (5, 4)))
        row, column = (0, 0, parts(0, 1)), (1, 1, parts(1, 0))
        self.assertIs(strikes_hold(game, [column, row]), True)
        self.assertIs(strikes_hold(game, [row, column]), False)
        self.assertIs(strikes_hold(game, [column]), False)
        # And a row is beaten again only as the column is gone against which it was best.
        self.assertEqual([strike[:2] for strike in strikes(game)], [(1, 1), (0, 0)])

    def test_other_mixes_as_the_judges_tell(self):
        draw = Random(614)
        found = {True: 0, False: 0}
        for game in GAMES * 3 + [game for game in drawn_games(90, 608, bounds=(2, 9, 1000)) if strikes(game)]:
            told = strikes(game)
            at = draw.randrange(len(told))
            side, choice, mix = told[at]
            for new in (mean_with(mix, choice, 1, 7), mean_with(mix, draw.randrange(size(game, side)), 6, 7),
                        drawn_mix(draw, size(game, side))):
                for changed in (told[:at] + [(side, choice, new)] + told[at + 1:], draw.sample(told, len(told))):
                    right = strikes_are_right(game, changed)
                    self.assertIs(strikes_hold(game, changed), right)
                    found[right] += 1
        self.assertGreater(min(found.values()), 60)

    def test_objects_of_all_kinds(self):
        strike = side, choice, mix = (0, 2, HALVES)
        wrong = [(strike,), strike, [list(strike)], [strike + (0,)], [strike[:2]], [(mix, side, choice)],
                 [(False, choice, mix)], [(1, choice, mix)], [(2, choice, mix)], [(-1, choice, mix)],
                 [("0", choice, mix)], [(0, 3, mix)], [(0, -1, mix)], [(0, "2", mix)], [(0, None, mix)],
                 [(0, choice, list(mix))], [(0, choice, mix[:2])], [(0, choice, ((1, 2), [1, 2], (0, 1)))],
                 [(0, choice, ((2, 4), (1, 2), (0, 1)))], [(0, choice, ((1, 2), (1, 2), (False, 1)))],
                 [(0, choice, ((1, 2), (1, 3), (1, 7)))], [(0, choice, None)], [(0, choice, parts(1, 1))],
                 [strike, None], [None, strike], [[]], [()], {0: strike}, [{}], [strike, []]]
        self.assertIs(strikes_hold(BOTH, [strike]), True)
        self.assertIs(strikes_hold(BOTH, [(0, choice, ((1, 2), (1, 3), (1, 6)))]), True)
        for value in wrong + ANYTHING + [[value] for value in ANYTHING]:
            self.assertIs(strikes_hold(BOTH, value), False, value)
        for at in range(3):
            for odd in ANYTHING:
                if not same(odd, strike[at]):
                    self.assertIs(strikes_hold(BOTH, [strike[:at] + (odd,) + strike[at + 1:]]), False)
        one = (((1,), (0,)), ((0,), (0,)))
        self.assertIs(strikes_hold(one, [(0, 1, ((1, 1), (0, 1)))]), True)
        for strike in ((0, True, ((1, 1), (0, 1))), (0, 1, ((True, 1), (0, 1))), (0, 1, ((1, 1), (False, 1))),
                       (0, 1, ((1, True), (0, 1))), (False, 1, ((1, 1), (0, 1)))):
            self.assertIs(strikes_hold(one, [strike]), False)
        for value in ANYTHING:
            self.assertIs(strikes_hold(GAME, value), same(value, []))

    def test_a_long_list_is_not_changed(self):
        told = strikes(CHAIN)
        before = list(told)
        strikes_hold(CHAIN, told)
        self.assertTrue(same(told, before))


class SteadyLeft(unittest.TestCase):
    def test_the_blocks_of_the_whole_game(self):
        struck = 0
        for game in GAMES + SMALL + LARGE + [CLEAR, OBLONG, TWOFOLD, PENNIES, ROCK] + every_shape(616, 9) + \
                drawn_games(150, 617):
            told = steady_left(game)
            self.assertIs(type(told), list)
            self.assertTrue(same(told, blocks(game)), game)
            struck += bool(strikes(game))
        self.assertGreater(struck, 80)

    def test_nothing_on_what_is_struck(self):
        self.assertEqual(steady_left(DILEMMA), [((parts(0, 1),), (parts(0, 1),))])
        self.assertEqual(steady_left(BOTH), [((parts(2, 1, 0),), (parts(1, 1),))])
        self.assertEqual(steady_left(STAIRS), [((parts(0, 1, 0),), (parts(1, 0, 0),))])
        for game in GAMES + drawn_games(60, 618):
            lots = left(game)
            for block in steady_left(game):
                for side in (0, 1):
                    for mix in block[side]:
                        self.assertLessEqual(set(lot_of(mix)), set(lots[side]))
                        self.assertEqual(len(mix), size(game, side))


class Refused(unittest.TestCase):
    def test_in_sequence(self):
        error = refused(beats, [None, 2, None, 9])
        self.assertIs(type(error), InvalidGame)
        self.assertIs(type(refused(beats, [BOTH, 2, None, 9])), InvalidSide)
        self.assertIs(type(refused(beats, [BOTH, 0, None, 9])), InvalidMix)
        error = refused(beats, [BOTH, 0, HALVES, 9])
        self.assertIs(type(error), InvalidNumber)
        self.assertEqual(error.value, 9)
        for function in (beaten_by, best_against):
            self.assertIs(type(refused(function, [None, 2, 9])), InvalidGame)
            self.assertIs(type(refused(function, [BOTH, 2, 9])), InvalidSide)
            for side, choice in ((0, 3), (0, -1), (1, 2), (1, 10 ** 30)):
                error = refused(function, [BOTH, side, choice])
                self.assertIs(type(error), InvalidNumber)
                self.assertEqual(error.value, choice)

    def test_a_mix_of_the_other_side(self):
        for side, mix in ((0, parts(1, 1)), (1, HALVES)):
            error = refused(beats, [BOTH, side, mix, 0])
            self.assertIs(type(error), InvalidMix)
            self.assertEqual(error.value, mix)


if __name__ == "__main__":
    unittest.main()
