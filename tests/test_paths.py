"""[15] Paths of stands, where labels lead, and what they pair; fact P1."""

import unittest
from functools import lru_cache

from steadymixes.errors import HasTies, InvalidLabel, NotSteady
from steadymixes.games import moved, turned
from steadymixes.paths import led, pairings, path
from steadymixes.signs import sign
from tests.calls import refused
from tests.judges import all_corners, labels_of, lists_in, parts, same, size, steady, steady_corners, worths_in
from tests.samples import (ALIKE, CLEAR, CROSSED, FINE, GAME, OBLONG, ONE_FIELD, ORDERED, PENNIES, ROCK, STEPS,
                           clear_games, filled)

FIRST, SECOND, HALF = ((1, 1), (0, 1)), ((0, 1), (1, 1)), ((1, 2), (1, 2))
BEGINNING = (None, None)
# One row, or one column, without ties.
LINES = [(((4, 7, 0, -2, 1000),), ((3, 9, -1000, 8, 2),)), (((4,), (-7,), (0,)), ((4,), (0,), (1000,)))]
GAMES = [GAME, PENNIES, ROCK, ONE_FIELD, CLEAR, turned(CLEAR), STEPS, *LINES]
DRAWN = clear_games(120, 207)[:50]
ALL = GAMES + [ORDERED, FINE] + DRAWN


def all_labels(game):
    return [(side, choice) for side in (0, 1) for choice in range(size(game, side))]


def labels_had(game, side, taken):
    """The labels of a part of a stand."""
    if taken is None:
        return {(side, choice) for choice in range(size(game, side))}
    return set(labels_of(game, side, taken))


def labels_of_stand(game, stand):
    return labels_had(game, 0, stand[0]) | labels_had(game, 1, stand[1])


def are_beside(game, dropped, stand, other):
    """Whether two stands are beside each other by a dropped label, as the document tells it."""
    needed = set(all_labels(game)) - {dropped}
    if not needed <= labels_of_stand(game, stand) or not needed <= labels_of_stand(game, other):
        return False
    unlike = [side for side in (0, 1) if stand[side] != other[side]]
    if len(unlike) != 1:
        return False
    side = unlike[0]
    mine, theirs = labels_had(game, side, stand[side]), labels_had(game, side, other[side])
    return len(mine - theirs) == 1 and len(theirs - mine) == 1


def starts_of(game):
    return [None] + steady_corners(game)


def stand_of(start):
    return BEGINNING if start is None else start


@lru_cache(maxsize=None)
def ends_of(game):
    """Where each label leads from each start."""
    return {(label, start): led(game, label, start) for label in all_labels(game) for start in starts_of(game)}


class Example(unittest.TestCase):
    def test_the_document_s_own(self):
        game = (((3, 0), (0, 2)), ((2, 0), (0, 3)))
        first, second = (FIRST, FIRST), (SECOND, SECOND)
        self.assertEqual(led(game, (0, 0), None), first)
        self.assertEqual(led(game, (0, 1), None), second)
        self.assertEqual(led(game, (0, 0), (((3, 5), (2, 5)), ((2, 5), (3, 5)))), second)
        self.assertEqual(len(path(game, (0, 0), None)), 3)


class Path(unittest.TestCase):
    def check(self, game, label, start):
        """Each word of what is said of a path; there is just one list of which they are true."""
        told = path(game, label, start)
        self.assertIs(type(told), list)
        self.assertEqual(len(lists_in(told)), 1)
        everything = set(all_labels(game))
        self.assertTrue(same(told[0], stand_of(start)))
        for stand in told:
            self.assertEqual((type(stand), len(stand)), (tuple, 2))
            for side, taken in enumerate(stand):
                self.assertTrue(taken is None or taken in all_corners(game, side))
        self.assertEqual(len(set(told)), len(told))
        self.assertGreater(len(told), 1)
        for stand, other in zip(told, told[1:]):
            self.assertTrue(are_beside(game, label, stand, other), (stand, other))
        for stand in told[1:-1]:
            self.assertEqual(labels_of_stand(game, stand), everything - {label})
        self.assertEqual(labels_of_stand(game, told[-1]), everything)
        self.assertTrue(told[-1] == BEGINNING or steady(game, *told[-1]))
        return told

    def test_every_label_and_every_start(self):
        longest = 0
        for game in GAMES + DRAWN:
            for label in all_labels(game):
                for start in starts_of(game):
                    longest = max(longest, len(self.check(game, label, start)))
        self.assertGreater(longest, 6)

    def test_games_of_many_steady_pairs(self):
        for game in (ORDERED, CROSSED, FINE):
            for label in all_labels(game)[::3]:
                for start in starts_of(game)[::4]:
                    self.check(game, label, start)

    def test_there_and_back(self):
        for game in GAMES + [FINE] + DRAWN:
            for label in all_labels(game):
                for start in starts_of(game):
                    there = path(game, label, start)
                    end = None if there[-1] == BEGINNING else there[-1]
                    self.assertTrue(same(path(game, label, end), there[::-1]))

    def test_known_ones(self):
        one, other = ((3, 5), (2, 5)), ((2, 5), (3, 5))
        self.assertEqual(path(GAME, (0, 0), None), [BEGINNING, (FIRST, None), (FIRST, FIRST)])
        self.assertEqual(path(GAME, (1, 1), None), [BEGINNING, (None, SECOND), (SECOND, SECOND)])
        self.assertEqual(path(GAME, (1, 0), (FIRST, FIRST)), [(FIRST, FIRST), (None, FIRST), BEGINNING])
        self.assertEqual(path(GAME, (1, 0), (one, other)), [(one, other), (SECOND, other), (SECOND, SECOND)])
        self.assertEqual(path(GAME, (0, 0), (one, other)), [(one, other), (one, SECOND), (SECOND, SECOND)])
        self.assertEqual(path(PENNIES, (0, 0), None), [
            BEGINNING, (FIRST, None), (FIRST, SECOND), (HALF, SECOND), (HALF, HALF)])
        alone = ((1, 1),)
        self.assertEqual(path(ONE_FIELD, (0, 0), None), [BEGINNING, (alone, None), (alone, alone)])
        self.assertEqual(path(ONE_FIELD, (1, 0), (alone, alone)), [(alone, alone), (None, alone), BEGINNING])

    def test_each_stand_has_one_or_two_beside(self):
        for game in (GAME, PENNIES, CLEAR, ROCK, *LINES, *clear_games(60, 212, most=3)[:8]):
            stands = [(one, other) for one in [None] + all_corners(game, 0) for other in [None] + all_corners(game, 1)]
            for label in all_labels(game):
                for stand in stands:
                    had = labels_of_stand(game, stand)
                    if had | {label} == set(all_labels(game)):
                        many = sum(are_beside(game, label, stand, other) for other in stands)
                        self.assertEqual(many, 1 if label in had else 2)


class Led(unittest.TestCase):
    def test_the_last_stand_of_the_path(self):
        for game in GAMES + [FINE, CROSSED] + DRAWN[:20]:
            for label in all_labels(game)[::2]:
                for start in starts_of(game):
                    end = path(game, label, start)[-1]
                    self.assertTrue(same(led(game, label, start), None if end == BEGINNING else end))

    def test_another_one_and_back(self):
        for game in ALL:
            ends = ends_of(game)
            for (label, start), end in ends.items():
                self.assertFalse(same(end, start))
                self.assertTrue(same(ends[label, end], start))

    def test_contrary_signs_at_the_ends(self):
        for game in ALL:
            signs = {start: -1 if start is None else sign(game, *start) for start in starts_of(game)}
            for (_, start), end in ends_of(game).items():
                self.assertEqual(signs[end], -signs[start])

    def test_each_steady_pair_is_led_to(self):
        for game in ALL:
            for label in all_labels(game):
                found = [end for (dropped, _), end in ends_of(game).items() if dropped == label]
                self.assertEqual(found.count(None), 1)
                self.assertEqual(len(set(found)), len(found))

    def test_as_heights_move(self):
        shifted = moved(moved(FINE, 0, 3, -200), 1, 1, 100)
        for (label, start), end in ends_of(FINE).items():
            self.assertEqual(led(shifted, label, start), end)


class Pairings(unittest.TestCase):
    def test_each_two_once_the_lower_one_first(self):
        for game in ALL:
            starts = starts_of(game)
            for label in all_labels(game):
                told = pairings(game, label)
                self.assertIs(type(told), list)
                right = []
                for at, start in enumerate(starts):
                    end = ends_of(game)[label, start]
                    if start is None or end is not None and starts.index(end) > at:
                        right.append((start, end))
                self.assertTrue(same(told, right))

    def test_in_sequence(self):
        for game in (ORDERED, FINE, CROSSED):
            told = pairings(game, (1, 2))
            self.assertIsNone(told[0][0])
            firsts = [worths_in(first) for first, _ in told[1:]]
            self.assertTrue(all(a < b for a, b in zip(firsts, firsts[1:])))
            self.assertTrue(all(worths_in(first) < worths_in(second) for first, second in told[1:]))
            self.assertEqual(2 * len(told), 1 + len(steady_corners(game)))

    def test_known_ones(self):
        one, other = ((3, 5), (2, 5)), ((2, 5), (3, 5))
        self.assertEqual(pairings(GAME, (0, 0)), [(None, (FIRST, FIRST)), ((SECOND, SECOND), (one, other))])
        self.assertEqual(pairings(GAME, (0, 1)), [(None, (SECOND, SECOND)), ((one, other), (FIRST, FIRST))])
        self.assertEqual(pairings(PENNIES, (1, 0)), [(None, (HALF, HALF))])
        self.assertEqual(pairings(ONE_FIELD, (0, 0)), [(None, (((1, 1),), ((1, 1),)))])


class Refused(unittest.TestCase):
    def check(self, function, arguments, error, value):
        found = refused(function, arguments)
        self.assertIs(type(found), error)
        self.assertTrue(same(found.value, value))

    def test_ties_ahead_of_labels_and_labels_ahead_of_starts(self):
        for function in (path, led):
            self.check(function, [ALIKE, None, 7], HasTies, ALIKE)
            self.check(function, [OBLONG, (0, 0), None], HasTies, OBLONG)
            self.check(function, [GAME, None, 7], InvalidLabel, None)
            self.check(function, [GAME, (0, 2), (None, None)], InvalidLabel, (0, 2))
            self.check(function, [GAME, (0, 1), (None, None)], NotSteady, (None, None))
        self.check(pairings, [filled(2, 2, 0), 7], HasTies, filled(2, 2, 0))
        self.check(pairings, [GAME, (2, 0)], InvalidLabel, (2, 0))

    def test_labels_of_the_other_side_s_size(self):
        for label in all_labels(CLEAR):
            led(CLEAR, label, None)
        for label in ((0, 2), (1, 3), (0, -1), (1, -1), (2, 0), (-1, 0)):
            for function, arguments in ((led, [CLEAR, label, None]), (path, [CLEAR, label, None]),
                                        (pairings, [CLEAR, label])):
                self.check(function, arguments, InvalidLabel, label)

    def test_starts_that_are_no_steady_pair(self):
        for start in ((FIRST, SECOND), (HALF, HALF), (FIRST, None), (None, FIRST), (FIRST,), [FIRST, FIRST],
                      (FIRST, FIRST, FIRST), (FIRST, list(FIRST)), (FIRST, ((1, 1), (0, 2))), (FIRST, parts(1, 0, 0)),
                      (FIRST, ((True, 1), (0, 1))), (), "", 0, False, True):
            for function in (path, led):
                self.check(function, [GAME, (0, 0), start], NotSteady, start)
        for function in (path, led):
            function(GAME, (0, 0), (FIRST, FIRST))


if __name__ == "__main__":
    unittest.main()
