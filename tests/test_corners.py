"""[6], [12] Labels, corners, means and weights; fact C1."""

import unittest
from fractions import Fraction
from random import Random

from steadymixes.corners import corners, flat_corners, is_corner, labels, mean_of, weights_for
from steadymixes.errors import InvalidMix, InvalidNumber
from steadymixes.games import height
from steadymixes.steady import is_steady
from tests.judges import (all_corners, good_chances, good_part, is_corner_of, labels_of, mean, part, parts, size,
                          worth, worths)
from tests.samples import (ALIKE, ANYTHING, FULL, GAME, LARGE, LONG, NEAR_HALF, OBLONG, ONE_COLUMN, ONE_FIELD,
                           ONE_ROW, PENNIES, ROCK, SMALL, STEPS, drawn_games, drawn_mix, every_shape, filled,
                           like_rows, long_mix)

FIRST, SECOND, HALF = ((1, 1), (0, 1)), ((0, 1), (1, 1)), ((1, 2), (1, 2))


def plain(many):
    """All mixes of one choice, ascending."""
    return [parts(*[1 if at == choice else 0 for at in range(many)]) for choice in reversed(range(many))]


class Example(unittest.TestCase):
    def test_the_document_s_own(self):
        game = (((3, 0), (0, 2)), ((2, 0), (0, 3)))
        self.assertEqual(corners(game, 0), [((0, 1), (1, 1)), ((3, 5), (2, 5)), ((1, 1), (0, 1))])
        self.assertEqual(labels(game, 0, ((3, 5), (2, 5))), ((1, 0), (1, 1)))
        self.assertEqual(labels(game, 0, ((1, 5), (4, 5))), ((1, 1),))
        flat = flat_corners(game, 0, ((1, 5), (4, 5)))
        self.assertEqual(flat, [((0, 1), (1, 1)), ((3, 5), (2, 5))])
        self.assertEqual(weights_for(game, 0, flat, ((1, 5), (4, 5))), ((2, 3), (1, 3)))


class Labels(unittest.TestCase):
    def test_own_choices_without_chance_and_best_ones_of_the_other_side(self):
        self.assertEqual(labels(OBLONG, 0, FIRST), ((0, 1), (1, 1)))
        self.assertEqual(labels(OBLONG, 0, HALF), ((1, 0), (1, 1), (1, 2)))
        self.assertEqual(labels(OBLONG, 1, ((1, 1), (0, 1), (0, 1))), ((0, 0), (1, 1), (1, 2)))
        self.assertEqual(labels(OBLONG, 1, ((0, 1), (0, 1), (1, 1))), ((0, 0), (0, 1), (1, 0), (1, 1)))
        self.assertEqual(labels(OBLONG, 1, parts(1, 1, 1)), ((0, 0), (0, 1)))
        self.assertEqual(labels(ONE_ROW, 0, ((1, 1),)), ((1, 1), (1, 3), (1, 4)))
        self.assertEqual(labels(ONE_ROW, 1, parts(0, 1, 0, 1, 1)), ((0, 0), (1, 0), (1, 2)))

    def test_many_games(self):
        draw = Random(50)
        for game in SMALL + LARGE + drawn_games(60, 51) + every_shape(52, 1000):
            for side in (0, 1):
                for mix in [drawn_mix(draw, size(game, side)) for _ in range(4)] + [long_mix(draw, size(game, side))]:
                    self.assertEqual(labels(game, side, mix), labels_of(game, side, mix))

    def test_exactly(self):
        self.assertEqual(labels(PENNIES, 0, HALF), ((1, 0), (1, 1)))
        self.assertEqual(labels(PENNIES, 0, NEAR_HALF), ((1, 0),))
        self.assertEqual(labels(PENNIES, 0, NEAR_HALF[::-1]), ((1, 1),))
        self.assertEqual(labels(GAME, 0, ((LONG - 1, LONG), (1, LONG))), ((1, 0),))

    def test_a_pair_is_steady_just_if_no_label_is_missing(self):
        draw = Random(53)
        for game in drawn_games(150, 54, bounds=(0, 1)):
            one, other = (drawn_mix(draw, size(game, side)) for side in (0, 1))
            told = set(labels(game, 0, one)) | set(labels(game, 1, other))
            self.assertIs(is_steady(game, one, other), len(told) == size(game, 0) + size(game, 1))


class IsCorner(unittest.TestCase):
    def test_ordinary_mixes(self):
        for mix, expected in ((FIRST, True), (SECOND, True), (HALF, True), (NEAR_HALF, False),
                              (((1, 3), (2, 3)), False)):
            self.assertIs(is_corner(PENNIES, 0, mix), expected)
            self.assertIs(is_corner(PENNIES, 1, mix), expected)
        self.assertIs(is_corner(GAME, 0, HALF), False)
        self.assertIs(is_corner(ONE_ROW, 0, ((1, 1),)), True)
        self.assertIs(is_corner(ONE_ROW, 1, parts(0, 1, 0, 1, 0)), False)
        self.assertIs(is_corner(ROCK, 1, parts(1, 1, 1)), True)
        self.assertIs(is_corner(ROCK, 1, parts(1, 1, 2)), False)

    def test_two_like_choices_make_no_corner(self):
        game = (((0, 0, 0), (0, 0, 0)), ((4, 4, 0), (2, 2, 1)))
        self.assertEqual(labels(game, 0, HALF), ((1, 0), (1, 1)))
        self.assertIs(is_corner(game, 0, HALF), False)
        for choices in range(2, 6):
            nothing = filled(choices, 5, 3)
            self.assertIs(is_corner(nothing, 0, parts(*[1] * choices)), False)
            self.assertIs(is_corner(nothing, 0, parts(*[1] * (choices - 1), 0)), choices == 2)

    def test_choices_that_meet_only_where_a_chance_is_nought(self):
        # Against the first row both columns get alike, but it is an end without them, too.
        game = (((0, 0), (0, 0)), ((4, 4), (2, 0)))
        self.assertIs(is_corner(game, 0, FIRST), True)
        self.assertEqual(corners(game, 0), [SECOND, FIRST])

    def test_many_mixes(self):
        draw = Random(55)
        found = set()
        for game in SMALL + LARGE + drawn_games(80, 56, bounds=(0, 1, 2, 3)):
            for side in (0, 1):
                for mix in [drawn_mix(draw, size(game, side), 2) for _ in range(6)]:
                    told = is_corner(game, side, mix)
                    self.assertIs(told, is_corner_of(game, side, mix))
                    found.add(told)
        self.assertEqual(found, {True, False})


class Corners(unittest.TestCase):
    def check(self, game, side):
        told = corners(game, side)
        self.assertEqual(type(told), list)
        self.assertTrue(all(good_chances(mix, size(game, side)) for mix in told))
        self.assertEqual(told, all_corners(game, side))
        self.assertTrue(all(worths(a) < worths(b) for a, b in zip(told, told[1:])))
        for mix in told:
            self.assertIs(is_corner(game, side, mix), True)

    def test_known_ones(self):
        self.assertEqual(corners(PENNIES, 0), [SECOND, HALF, FIRST])
        self.assertEqual(corners(PENNIES, 1), [SECOND, HALF, FIRST])
        self.assertEqual(corners(ONE_FIELD, 0), [((1, 1),)])
        self.assertEqual(corners(ONE_ROW, 0), [((1, 1),)])
        self.assertEqual(corners(ONE_ROW, 1), plain(5))
        self.assertEqual(corners(ONE_COLUMN, 0), plain(5))
        self.assertEqual(corners(ONE_COLUMN, 1), [((1, 1),)])
        self.assertEqual(corners(filled(5, 5, 9), 1), plain(5))
        self.assertEqual(corners(OBLONG, 0), [SECOND, HALF, FIRST])
        self.assertEqual(corners(ROCK, 0), sorted(plain(3) + [
            parts(1, 1, 1), parts(1, 2, 0), parts(2, 0, 1), parts(0, 1, 2)], key=worths))

    def test_ascending_is_by_worth(self):
        # As tuples (1, 2) stands before (1, 3), and (2, 7) behind both.
        game = (((0,) * 5,) * 2, ((0, 7, 9, 9, 7), (0, -14, -21, -25, -15)))
        told = [mix[0] for mix in corners(game, 0)]
        self.assertEqual(told, sorted(told, key=worth))
        self.assertNotEqual(told, sorted(told))
        self.assertEqual(told, [mix[0] for mix in all_corners(game, 0)])

    def test_places_are_compared_one_behind_the_other(self):
        game = (((0, 0, 1), (0, 1, 0), (1, 0, 0)), ((6, 1, 0), (1, 4, 0), (0, 0, 3)))
        self.check(game, 0)
        told = corners(game, 0)
        self.assertTrue(any(a[0] == b[0] for a, b in zip(told, told[1:])))

    def test_small_games(self):
        for game in SMALL:
            self.check(game, 0)
            self.check(game, 1)

    def test_games_of_every_shape(self):
        for game in every_shape(57, 1000)[:-1] + every_shape(58, 1)[:-1]:
            self.check(game, 0)
            self.check(game, 1)

    def test_games_with_many_ties(self):
        for game in drawn_games(60, 59, most=4, bounds=(0, 1)):
            self.check(game, 0)
            self.check(game, 1)
        self.check(like_rows((2, 0, 2, 1), (0, 1, 1, 0), 4), 0)
        self.check(like_rows((2, 0, 2, 1), (0, 1, 1, 0), 4), 1)

    def test_five_rows_and_five_columns(self):
        for game in (FULL, STEPS, filled(5, 5, 0), LARGE[6], LARGE[7], every_shape(60, 1000)[-1]):
            self.check(game, 0)
        self.check(every_shape(60, 1000)[-1], 1)


class Means(unittest.TestCase):
    def test_ordinary_ones(self):
        self.assertEqual(mean_of(GAME, 0, [FIRST, SECOND], ((1, 3), (2, 3))), ((1, 3), (2, 3)))
        self.assertEqual(mean_of(GAME, 1, [FIRST, SECOND, HALF], ((1, 2), (0, 1), (1, 2))), ((3, 4), (1, 4)))
        self.assertEqual(mean_of(GAME, 1, [HALF], ((1, 1),)), HALF)
        self.assertEqual(mean_of(GAME, 0, [FIRST, FIRST], ((1, 7), (6, 7))), FIRST)
        self.assertEqual(mean_of(OBLONG, 1, [parts(1, 1, 0), parts(0, 1, 2)], ((2, 5), (3, 5))),
                         parts(1, 2, 2))
        self.assertEqual(mean_of(ONE_ROW, 0, [((1, 1),)], ((1, 1),)), ((1, 1),))

    def test_drawn_ones(self):
        draw = Random(61)
        for game in every_shape(62, 3):
            for side in (0, 1):
                for make in (drawn_mix, long_mix):
                    many = draw.randint(1, 7)
                    mixes = [make(draw, size(game, side)) for _ in range(many)]
                    weights = make(draw, many)
                    told = mean_of(game, side, mixes, weights)
                    self.assertTrue(good_chances(told, size(game, side)))
                    self.assertEqual(worths(told), mean(mixes, weights))

    def test_weights_that_are_none(self):
        mixes = [FIRST, SECOND]
        for weights in [[(1, 2), (1, 2)], ((1, 2),), ((1, 2), (1, 2), (0, 1)), ((1, 2), (1, 3)), ((1, 2), (2, 3)),
                        ((3, 2), (-1, 2)), ((2, 4), (1, 2)), ((1, 2), [1, 2]), ((True, 1), (0, 1)), ((1, 1), (0, 2)),
                        ((1, 1), (False, 1)), ((-1, -2), (1, 2)), (1, 0), ((1, 1), (1, 1)), ((0, 1), (0, 1)),
                        ((1, 1), None)] + ANYTHING:
            with self.subTest(weights=weights):
                with self.assertRaises(InvalidNumber) as caught:
                    mean_of(GAME, 0, mixes, weights)
                self.assertEqual(caught.exception.value, weights)

    def test_the_first_mix_that_is_none(self):
        good, bad, worse = HALF, ((1, 2), (1, 3)), None
        for mixes, value in (([good, bad, worse], bad), ([worse, bad], worse), ([good, good, bad], bad),
                             ([[(1, 1), (0, 1)]], [(1, 1), (0, 1)]), ([good, parts(1, 1, 1)], parts(1, 1, 1))):
            for call in (lambda: mean_of(GAME, 1, mixes, 0), lambda: weights_for(GAME, 1, mixes, 0)):
                with self.assertRaises(InvalidMix) as caught:
                    call()
                self.assertEqual(caught.exception.value, value)


class Weights(unittest.TestCase):
    def check(self, game, side, mixes, mix):
        told = weights_for(game, side, mixes, mix)
        self.assertTrue(good_chances(told, len(mixes)), (game, side, mixes, mix, told))
        self.assertEqual(mean(mixes, told), worths(mix))
        self.assertEqual(mean_of(game, side, mixes, told), mix)

    def test_ordinary_ones(self):
        self.assertEqual(weights_for(GAME, 0, [FIRST, SECOND], ((1, 3), (2, 3))), ((1, 3), (2, 3)))
        self.assertEqual(weights_for(GAME, 0, [SECOND, FIRST], ((1, 3), (2, 3))), ((2, 3), (1, 3)))
        self.assertEqual(weights_for(GAME, 1, [HALF], HALF), ((1, 1),))
        self.assertEqual(weights_for(ONE_ROW, 0, [((1, 1),)], ((1, 1),)), ((1, 1),))
        self.assertEqual(weights_for(OBLONG, 1, [parts(1, 0, 0), parts(0, 1, 1)], parts(1, 2, 2)), ((1, 5), (4, 5)))
        self.check(GAME, 0, [FIRST, HALF, SECOND], ((2, 3), (1, 3)))
        self.check(GAME, 0, [HALF, HALF, HALF], HALF)
        self.check(ONE_ROW, 0, [((1, 1),)] * 4, ((1, 1),))

    def test_there_are_none(self):
        self.assertIsNone(weights_for(GAME, 0, [], HALF))
        self.assertIsNone(weights_for(ONE_FIELD, 1, [], ((1, 1),)))
        self.assertIsNone(weights_for(GAME, 0, [FIRST], HALF))
        self.assertIsNone(weights_for(GAME, 0, [FIRST, HALF], ((1, 3), (2, 3))))
        self.assertIsNone(weights_for(GAME, 0, [HALF], NEAR_HALF))
        self.assertIsNone(weights_for(GAME, 0, [FIRST, NEAR_HALF[::-1]], NEAR_HALF))
        self.assertIsNone(weights_for(OBLONG, 1, [parts(1, 1, 0), parts(0, 1, 1)], parts(1, 0, 1)))
        # Within the bounds of each choice by itself, but off the stretch between the two.
        self.assertIsNone(weights_for(OBLONG, 1, [parts(2, 1, 1), parts(0, 1, 3)], parts(3, 2, 5)))
        self.check(OBLONG, 1, [parts(2, 1, 1), parts(0, 1, 3)], parts(1, 1, 2))
        self.assertIsNone(weights_for(OBLONG, 1, [parts(1, 0, 0), parts(0, 1, 0), parts(1, 1, 2)], parts(1, 1, 3)))

    def test_means_of_drawn_mixes(self):
        draw = Random(63)
        for game in every_shape(64, 3):
            for side in (0, 1):
                for make in (drawn_mix, long_mix):
                    many = draw.randint(1, 8)
                    mixes = [make(draw, size(game, side)) for _ in range(many)]
                    self.check(game, side, mixes, mean_of(game, side, mixes, drawn_mix(draw, many)))
                    self.check(game, side, mixes, draw.choice(mixes))

    def test_many_mixes(self):
        draw = Random(65)
        game = filled(5, 1, 0)
        mixes = [drawn_mix(draw, 5) for _ in range(60)]
        self.check(game, 0, mixes, mean_of(game, 0, mixes, drawn_mix(draw, 60)))
        self.check(game, 0, [parts(9, 1, 1, 1, 1)] + plain(5) * 5, parts(1, 2, 3, 4, 5))

    def test_a_mix_beyond_all_of_them(self):
        # With more for some choice than each of the mixes has, it is no mean of them.
        draw = Random(66)
        beyond = 0
        for _ in range(150):
            many = draw.randint(2, 5)
            mixes = [drawn_mix(draw, many) for _ in range(draw.randint(1, 4))]
            mix = drawn_mix(draw, many)
            if any(worth(mix[at]) > max(worth(told[at]) for told in mixes) for at in range(many)):
                beyond += 1
                self.assertIsNone(weights_for(filled(many, 2, 0), 0, mixes, mix))
        self.assertGreater(beyond, 50)

    def test_a_mix_beyond_a_plane(self):
        # What all of the mixes have at least, by any measure of choices, each mean of them has.
        draw = Random(67)
        for _ in range(100):
            many = draw.randint(2, 5)
            measure = [draw.randint(-5, 5) for _ in range(many)]
            told = [drawn_mix(draw, many) for _ in range(12)]
            told.sort(key=lambda mix: sum(a * b for a, b in zip(measure, worths(mix))))
            sums = [sum(a * b for a, b in zip(measure, worths(mix))) for mix in told]
            mixes = [mix for mix, total in zip(told, sums) if total > sums[0]]
            self.assertIsNone(weights_for(filled(1, many, 0), 1, mixes, told[0]))


class FlatCorners(unittest.TestCase):
    def check(self, game, side, mix):
        told = flat_corners(game, side, mix)
        needed = set(labels_of(game, side, mix))
        expected = [corner for corner in corners(game, side) if needed <= set(labels_of(game, side, corner))]
        self.assertEqual(told, expected)
        self.assertEqual(type(told), list)
        weights = weights_for(game, side, told, mix)
        self.assertTrue(good_chances(weights, len(told)))
        self.assertEqual(mean(told, weights), worths(mix))
        heights = [worth(height(game, side, corner)) for corner in told]
        total = sum(worth(weight) * number for weight, number in zip(weights, heights))
        self.assertEqual(total, worth(height(game, side, mix)))
        self.assertIs(len(told) == 1, is_corner(game, side, mix))
        self.assertIs(told == [mix], is_corner(game, side, mix))

    def test_known_ones(self):
        self.assertEqual(flat_corners(PENNIES, 0, NEAR_HALF), [SECOND, HALF])
        self.assertEqual(flat_corners(PENNIES, 0, HALF), [HALF])
        self.assertEqual(flat_corners(filled(3, 2, 0), 0, parts(1, 0, 1)), [plain(3)[0], plain(3)[2]])
        self.assertEqual(flat_corners(filled(3, 2, 0), 0, parts(1, 1, 1)), plain(3))
        self.assertEqual(flat_corners(ALIKE, 0, HALF), [SECOND, FIRST])
        self.assertEqual(flat_corners(ONE_ROW, 0, ((1, 1),)), [((1, 1),)])

    def test_each_mix_is_a_mean_of_them(self):
        draw = Random(68)
        for game in SMALL + LARGE + drawn_games(50, 69) + every_shape(70, 1):
            for side in (0, 1):
                self.check(game, side, drawn_mix(draw, size(game, side)))

    def test_long_fractions(self):
        draw = Random(71)
        for game in (GAME, ROCK, FULL, filled(5, 5, 1), every_shape(72, 1000)[-1]):
            for side in (0, 1):
                self.check(game, side, long_mix(draw, size(game, side)))

    def test_each_corner_is_one_alone(self):
        for game in SMALL + LARGE[:3] + every_shape(73, 4)[::3]:
            for side in (0, 1):
                for corner in corners(game, side):
                    self.assertEqual(flat_corners(game, side, corner), [corner])


class Fractions(unittest.TestCase):
    def test_weights_are_told_in_lowest_terms(self):
        told = weights_for(filled(4, 1, 0), 0, plain(4), parts(2, 4, 6, 8))
        self.assertEqual(told, (part(4, 10), part(3, 10), part(2, 10), part(1, 10)))
        self.assertTrue(all(good_part(weight) for weight in told))
        self.assertEqual(sum(worths(told)), Fraction(1))


if __name__ == "__main__":
    unittest.main()
