"""[33] How steady pairs come and go as prizes for choices are raised; facts Z1 and Z2."""

import unittest
from fractions import Fraction
from functools import lru_cache
from itertools import combinations
from random import Random

from steadymixes.errors import InvalidGame, InvalidLot, InvalidMix, InvalidNumber, InvalidPrizes
from steadymixes.prizes import pair_at, span, spans, steady_at, turns
from steadymixes.steady import is_steady, steady_with, whole_paper
from tests.calls import refused
from tests.judges import (best_of, ends_of, few_figures, good_part, lists_in, lot_of, lots, number_at, only_point,
                          pair_is_right, part, parts, same, size, steady, steady_corners, worth)
from tests.samples import (ALIKE, ANYTHING, CLEAR, FULL, GAME, IDLE, MANY_BLOCKS, OBLONG, ONE_FIELD, ONE_ROW, ORDERED,
                           PENNIES, ROCK, SMALL, STEPS, THREE_ROWS, Odd, drawn_games, drawn_pair, filled, games_of_two,
                           like_rows)

PRIZES = ((1, 0), (0, 0))
FIRST, SECOND, HALF = ((1, 1), (0, 1)), ((0, 1), (1, 1)), ((1, 2), (1, 2))
ALWAYS = (None, False, None, False)
FAR = 10 ** 199
GREAT = [part(FAR * 7 + 3, 10 ** 200 - 11), part(-FAR * 3 + 1, 10 ** 200 - 9), (10 ** 200 - 1, 1), (1 - 10 ** 200, 1),
         (1, 10 ** 200 - 1), part(-1, 9 * FAR), part(10 ** 200 - 1, 10 ** 200 - 3)]


def at(game, prizes, t):
    """The game at t, with Fractions for numbers."""
    first = tuple(tuple(number + t * prize for number in row) for row, prize in zip(game[0], prizes[0]))
    second = tuple(tuple(number + t * prize for number, prize in zip(row, prizes[1])) for row in game[1])
    return first, second


def ends_in_time(game, prizes, side):
    """Each t at which an end of chances, t and height stands, of a mix of a side."""
    many, theirs = size(game, side), size(game, 1 - side)
    planes = [[1 if k == own else 0 for k in range(many)] + [0, 0, 0] for own in range(many)]
    for choice in range(theirs):
        row = [number_at(game, 1 - side, choice, own) for own in range(many)]
        planes.append(row + [prizes[1 - side][choice], -1, 0])
    found = set()
    for chosen in combinations(planes, many + 1):
        point = only_point([[1] * many + [0, 0, 1], *chosen])
        if point is not None and min(point[:many]) >= 0:
            heights = [sum(a * b for a, b in zip(plane, point)) for plane in planes[many:]]
            if max(heights) <= 0:
                found.add(point[many])
    return found


def all_steady_lots(game):
    """The lots of all steady pairs: those whose choices corners with less or as much make up, on both sides."""
    told = [[(lot_of(mix), best_of(game, 1 - side, mix)) for mix in ends_of(game, side)] for side in (0, 1)]
    found = set()
    for rows in lots(size(game, 0)):
        for columns in lots(size(game, 1)):
            both = (rows, columns)
            if all(set().union(*[own for own, best in told[side]
                                 if set(own) <= set(both[side]) and set(both[1 - side]) <= set(best)])
                   == set(both[side]) for side in (0, 1)):
                found.add(both)
    return found


@lru_cache(maxsize=None)
def right_spans(game, prizes):
    """A dict of the spans of all lots that have one, from looks at every end, between all of them and beyond."""
    times = sorted(ends_in_time(game, prizes, 0) | ends_in_time(game, prizes, 1)) or [Fraction(0)]
    looks = [times[0] - 1]
    for time, later in zip(times, times[1:] + [times[-1] + 2]):
        looks += [time, (time + later) / 2]
    seen = [all_steady_lots(at(game, prizes, t)) for t in looks]
    assert all(seen)
    found = {}
    for pair in set().union(*seen):
        having = [k for k, told in enumerate(seen) if pair in told]
        first, last = having[0], having[-1]
        assert having == list(range(first, last + 1)), "Z1"
        # Ends stand at odd places; a stretch that begins between two of them begins behind the lower one.
        least = (part(looks[first]), True) if first % 2 else (part(looks[first - 1]), False)
        greatest = (part(looks[last]), True) if last % 2 else (part((looks + [0])[last + 1]), False)
        found[pair] = (least if first else (None, False)) + (greatest if last < len(looks) - 1 else (None, False))
    return found


def in_sequence(found):
    """(rows, columns, span), as spans tells them."""
    def place(entry):
        (rows, columns), (least, its, _, _) = entry
        return (least is not None, worth(least) if least else 0, not its, rows, columns)
    return [(*pair, told) for pair, told in sorted(found.items(), key=place)]


def drawn_prizes(draw, game, bound):
    return tuple(tuple(draw.randint(-bound, bound) for _ in range(size(game, side))) for side in (0, 1))


def no_prizes(game):
    return (0,) * size(game, 0), (0,) * size(game, 1)


def cases(many, seed, most=3):
    """Games with prizes, many of them with ties."""
    draw = Random(seed)
    return [(game, drawn_prizes(draw, game, draw.choice((1, 2, 9, 1000))))
            for game in drawn_games(many, seed, most=most, bounds=(0, 1, 2, 9, 1000))]


KNOWN = [(GAME, PRIZES), (GAME, ((0, 0), (1, -1))), (ALIKE, PRIZES), (ALIKE, ((1, 2), (2, 1))),
         (PENNIES, ((3, -2), (0, 7))),
         (ROCK, ((1, 0, 0), (0, 0, 0))), (ROCK, ((1, 0, -1), (-1, 0, 1))), (OBLONG, ((1, 0), (0, 2, 1))),
         (IDLE, ((0, 1), (0, 1))), (THREE_ROWS, ((1, 0, 0), (0, 1))), (CLEAR, ((1000, -1000), (-1000, 0, 1000))),
         (filled(2, 2, 0), ((0, 1), (1, 0))), (filled(3, 2, 5), ((0, 1, 1), (0, 0))), (ONE_FIELD, ((7,), (-3,))),
         (ONE_FIELD, ((0,), (0,))), (like_rows((2, 0, 2), (0, 1, 1), 3), ((0, 0, 1), (0, 0, 1))),
         ((((4, -7, 0),), ((3, 9, 9),)), ((5,), (1, 0, 2)))]


class Example(unittest.TestCase):
    def test_the_document_s_own(self):
        game = (((3, 0), (0, 2)), ((2, 0), (0, 3)))
        prizes = ((1, 0), (0, 0))
        self.assertEqual(span(game, prizes, (0,), (0,)), ((-3, 1), True, None, False))
        self.assertEqual(span(game, prizes, (0, 1), (0, 1)), ((-3, 1), False, (2, 1), False))
        self.assertEqual(turns(game, prizes), [(-3, 1), (2, 1)])
        self.assertEqual(pair_at(game, prizes, (1, 1), (0, 1), (0, 1)), (((3, 5), (2, 5)), ((1, 5), (4, 5))))


class Spans(unittest.TestCase):
    def check(self, game, prizes):
        right = right_spans(game, prizes)
        told = spans(game, prizes)
        self.assertIs(type(told), list)
        self.assertTrue(same(told, in_sequence(right)), (game, prizes))
        self.assertEqual(len(lists_in(told)), 1)
        self.assertTrue(few_figures([end for _, _, stretch in told for end in (stretch[0], stretch[2])]))
        for rows in lots(size(game, 0)):
            for columns in lots(size(game, 1)):
                self.assertTrue(same(span(game, prizes, rows, columns), right.get((rows, columns))))
        ends = {end for _, _, stretch in told for end in (stretch[0], stretch[2]) if end is not None}
        self.assertTrue(same(turns(game, prizes), sorted(ends, key=worth)))
        return right

    def test_known_games(self):
        for game, prizes in KNOWN:
            self.check(game, prizes)

    def test_known_ones(self):
        self.assertEqual(spans(GAME, PRIZES), [
            ((1,), (1,), (None, False, (2, 1), True)), ((0,), (0,), ((-3, 1), True, None, False)),
            ((0, 1), (0,), ((-3, 1), True, (-3, 1), True)), ((0, 1), (0, 1), ((-3, 1), False, (2, 1), False)),
            ((0, 1), (1,), ((2, 1), True, (2, 1), True))])
        self.assertIsNone(span(GAME, PRIZES, (0,), (1,)))
        self.assertIsNone(span(GAME, PRIZES, (0,), (0, 1)))
        self.assertEqual(spans(ONE_FIELD, ((1000,), (-1000,))), [((0,), (0,), ALWAYS)])
        self.assertEqual(turns(ONE_FIELD, ((1000,), (-1000,))), [])
        # Both ends, neither of them such a t, or both, or one.
        self.assertEqual(span(PENNIES, ((1, 0), (0, 0)), (0, 1), (0, 1)), ((-2, 1), False, (2, 1), False))
        self.assertEqual(span(filled(2, 1, 0), ((0, 1), (5,)), (0,), (0,)), (None, False, (0, 1), True))
        self.assertEqual(span(filled(2, 1, 0), ((0, 1), (5,)), (0, 1), (0,)), ((0, 1), True, (0, 1), True))
        self.assertEqual(span(filled(2, 1, 0), ((0, 1), (5,)), (1,), (0,)), ((0, 1), True, None, False))
        self.assertEqual(span((((1,), (0,), (0,)), ((0,), (0,), (0,))), ((0, -1, 2), (0,)), (0,), (0,)),
                         ((-1, 1), True, (1, 2), True))

    def test_all_kinds_of_ends(self):
        # The first column is best as long as the chance of the first row is not less than t.
        even = (((0, 0), (0, 0)), ((1, 0), (0, 0)))
        self.assertEqual(span(even, ((0, 0), (0, 1)), (0, 1), (0,)), (None, False, (1, 1), False))
        self.assertEqual(span(even, ((0, 0), (0, 1)), (0,), (0,)), (None, False, (1, 1), True))
        self.assertEqual(span(even, ((0, 0), (0, -1)), (0, 1), (0,)), ((-1, 1), False, None, False))
        kinds = set()
        for game, prizes in KNOWN + [(even, ((0, 0), (0, 1)))] + cases(60, 701):
            for _, _, (least, its, greatest, own) in spans(game, prizes):
                kinds.add((least is None, its, greatest is None, own, least == greatest))
        self.assertEqual(kinds, {
            (True, False, True, False, True), (True, False, False, True, False), (True, False, False, False, False),
            (False, True, True, False, False), (False, False, True, False, False), (False, True, False, True, True),
            (False, True, False, True, False), (False, True, False, False, False), (False, False, False, True, False),
            (False, False, False, False, False)})

    def test_drawn_games(self):
        for game, prizes in cases(70, 702):
            self.check(game, prizes)

    def test_little_games_of_two(self):
        draw = Random(703)
        for game in games_of_two((0, 1))[::5]:
            self.check(game, drawn_prizes(draw, game, 1))

    def test_some_larger_ones(self):
        for game, prizes in [case for case in cases(40, 704, most=4) if size(case[0], 0) + size(case[0], 1) == 7][:4]:
            self.check(game, prizes)

    def test_like_choices_and_many_ties(self):
        for game, prizes in ((filled(3, 3, 0), ((1, 0, 0), (0, 1, 1))), (filled(2, 3, -7), ((0, 0), (0, 0, 0))),
                             (filled(3, 3, 1), ((2, 1, 0), (0, 1, 2))),
                             (like_rows((1, 0, 1), (0, 1, 1), 3), ((1,) * 3, (1, 0, 0)))):
            right = self.check(game, prizes)
            self.assertGreater(len(right), 9)
        prizes = ((1, 2, 3, 4, 5), (5, 4, 3, 2, 1))
        told = spans(filled(5, 5, 0), prizes)
        self.assertEqual(len(told), 31 * 31)
        self.assertEqual(turns(filled(5, 5, 0), prizes), [(0, 1)])
        self.assertEqual(told[0], ((0,), (4,), (None, False, (0, 1), True)))
        self.assertEqual(told[1], ((0,), (0,), ((0, 1), True, (0, 1), True)))

    def test_without_prizes_nothing_turns(self):
        for game in SMALL + drawn_games(30, 705):
            prizes = no_prizes(game)
            told = spans(game, prizes)
            self.assertEqual(turns(game, prizes), [])
            self.assertTrue(all(stretch == ALWAYS for _, _, stretch in told))
            keys = [(rows, columns) for rows, columns, _ in told]
            self.assertEqual(keys, sorted(keys))
            for rows in lots(size(game, 0))[:7]:
                for columns in lots(size(game, 1))[:7]:
                    self.assertIs(steady_with(game, rows, columns) is None, (rows, columns) not in keys)

    def test_prizes_alike_for_all_choices_of_a_side_alter_nothing(self):
        for game in SMALL[:9]:
            for first, second in ((3, 0), (-9, 1000)):
                prizes = (first,) * size(game, 0), (second,) * size(game, 1)
                self.assertEqual(spans(game, prizes), spans(game, no_prizes(game)))

    def test_backwards(self):
        for game, prizes in KNOWN + cases(30, 706):
            back = tuple(tuple(-prize for prize in told) for told in prizes)
            ends = [(-above, below) for above, below in turns(game, prizes)]
            self.assertEqual(turns(game, back), ends[::-1])
            for rows, columns, (least, its, greatest, own) in spans(game, prizes):
                flipped = [None if end is None else (-end[0], end[1]) for end in (greatest, least)]
                self.assertEqual(span(game, back, rows, columns), (flipped[0], own, flipped[1], its))

    def test_in_sequence(self):
        seen = 0
        for game, prizes in [(ORDERED, ((1, 2, 3, 4, 5), (0, 0, 7, 0, 0))), (FULL, ((1, 0, 0, 0, 0), (0,) * 5)),
                             (MANY_BLOCKS, ((1, -1, 1, -1, 1), (0, 1, 0, 1, 0)))] + KNOWN + cases(20, 707, most=5):
            told = spans(game, prizes)
            keys = [(least is not None, worth(least) if least else 0, not its, rows, columns)
                    for rows, columns, (least, its, _, _) in told]
            self.assertEqual(keys, sorted(keys))
            self.assertEqual(len(set(keys)), len(keys))
            seen += len([1 for one, other in zip(keys, keys[1:]) if one[:2] == other[:2] and one[2] != other[2]])
        self.assertGreater(seen, 5)
        # Lots by tuples, not by their number: (0, 1) ahead of (1,).
        self.assertEqual([rows for rows, _, _ in spans(filled(2, 1, 0), ((0, 0), (0,)))], [(0,), (0, 1), (1,)])

    def test_ascending_is_by_worth(self):
        for game, prizes in cases(30, 708, most=4):
            told = [worth(end) for end in turns(game, prizes)]
            self.assertTrue(all(one < other for one, other in zip(told, told[1:])))
        prizes = ((3, 0, 0), (0,))
        game = (((0,), (2,), (1,)), ((0,), (0,), (0,)))
        self.assertEqual(turns(game, prizes), [(2, 3)])
        game = (((0, 0), (2, 1)), ((0, 5), (3, 0)))
        self.assertEqual(turns(game, ((3, 0), (0, 0))), [(1, 3), (2, 3)])
        self.assertEqual(turns(game, ((-3, 0), (0, 0))), [(-2, 3), (-1, 3)])

    def test_at_each_t_some_lots_have_a_pair(self):
        draw = Random(709)
        for game, prizes in cases(15, 710, most=5):
            told = spans(game, prizes)
            ends = turns(game, prizes) + [part(draw.randint(-99, 99), draw.randint(1, 9)) for _ in range(4)]
            for t in ends:
                self.assertTrue(any(has(stretch, worth(t)) for _, _, stretch in told))

    def test_the_largest_games(self):
        draw = Random(711)
        for game in (STEPS, ORDERED, MANY_BLOCKS):
            prizes = drawn_prizes(draw, game, 1000)
            told = {(rows, columns): stretch for rows, columns, stretch in spans(game, prizes)}
            self.assertTrue(few_figures([turns(game, prizes), [stretch[::2] for stretch in told.values()]]))
            ends = turns(game, prizes)
            for t in [ends[0], part((worth(ends[-1]) + worth(ends[-2])) / 2), (1, 3)]:
                right = all_steady_lots(at(game, prizes, worth(t)))
                self.assertEqual({lots for lots, stretch in told.items() if has(stretch, worth(t))}, right)


def has(stretch, t):
    """Whether a span has a t."""
    least, its, greatest, own = stretch
    if least is not None and (t < worth(least) or t == worth(least) and not its):
        return False
    return greatest is None or t < worth(greatest) or t == worth(greatest) and own


class PairAt(unittest.TestCase):
    def check(self, game, prizes, t, rows, columns, right):
        told = pair_at(game, prizes, t, rows, columns)
        self.assertIs(told is not None, right, (game, prizes, t, rows, columns))
        if right:
            self.assertTrue(pair_is_right(at(game, prizes, worth(t)), rows, columns, told))
            self.assertTrue(few_figures(told))
            self.assertIs(steady_at(game, prizes, t, *told), True)

    def test_at_ends_between_them_and_beyond(self):
        little = Fraction(1, 10 ** 190)
        for game, prizes in KNOWN + cases(14, 712):
            for rows, columns, stretch in spans(game, prizes):
                ends = [worth(end) for end in (stretch[0], stretch[2]) if end is not None] or [Fraction(5, 7)]
                times = ends + [end + step for end in ends for step in (little, -little, 10, -10)]
                for t in times + [sum(ends) / len(ends)]:
                    self.check(game, prizes, part(t), rows, columns, has(stretch, t))

    def test_lots_that_have_no_span(self):
        for game, prizes in KNOWN[:8]:
            for rows in lots(size(game, 0)):
                for columns in lots(size(game, 1)):
                    if span(game, prizes, rows, columns) is None:
                        for t in turns(game, prizes) + [(0, 1), (-7, 3), GREAT[0]]:
                            self.check(game, prizes, t, rows, columns, False)

    def test_great_t(self):
        seen = 0
        for game, prizes in KNOWN + cases(12, 713) + [
                (FULL, ((5, 4, 3, -2, 1), (1000, 999, -998, 997, 996))), (ORDERED, ((1, 2, 3, 4, 5), (0, 0, 7, 0, 0))),
                (MANY_BLOCKS, ((1, -1, 1, -1, 1), (0, 1, 0, 1, 0)))]:
            told = {(rows, columns): stretch for rows, columns, stretch in spans(game, prizes)}
            for t in GREAT:
                for (rows, columns), stretch in list(told.items())[:40]:
                    self.check(game, prizes, t, rows, columns, has(stretch, worth(t)))
                    seen += has(stretch, worth(t))
        self.assertGreater(seen, 300)

    def test_long_pairs(self):
        t = GREAT[0]
        one, other = pair_at(PENNIES, ((1, 0), (0, 1)), t, (0, 1), (0, 1))
        self.assertGreater(one[0][1], 10 ** 199)
        self.assertTrue(few_figures((one, other)))
        self.assertTrue(steady(at(PENNIES, ((1, 0), (0, 1)), worth(t)), one, other))

    def test_at_nought_it_is_the_game_itself(self):
        draw = Random(714)
        for game in SMALL[:10]:
            prizes = drawn_prizes(draw, game, 1000)
            for rows in lots(size(game, 0))[:7]:
                for columns in lots(size(game, 1))[:7]:
                    self.assertIs(pair_at(game, prizes, (0, 1), rows, columns) is None,
                                  steady_with(game, rows, columns) is None)
        self.assertEqual(len(whole_paper(GAME)), 9)


class SteadyAt(unittest.TestCase):
    def test_as_the_judges_tell(self):
        draw = Random(715)
        found = {True: 0, False: 0}
        for game, prizes in KNOWN + cases(30, 716):
            for t in [(0, 1), (1, 1), (-2, 3), GREAT[draw.randrange(len(GREAT))]] + turns(game, prizes)[:4]:
                moved = at(game, prizes, worth(t))
                for pair in steady_corners(moved)[:3] + [drawn_pair(draw, game) for _ in range(3)]:
                    told = steady_at(game, prizes, t, *pair)
                    self.assertIs(told, steady(moved, *pair))
                    found[told] += 1
        self.assertGreater(min(found.values()), 100)

    def test_at_ends_and_a_little_beyond(self):
        end, little = Fraction(2), Fraction(1, 10 ** 190)
        self.assertIs(steady_at(GAME, PRIZES, (2, 1), SECOND, SECOND), True)
        self.assertIs(steady_at(GAME, PRIZES, part(end - little), SECOND, SECOND), True)
        self.assertIs(steady_at(GAME, PRIZES, part(end + little), SECOND, SECOND), False)
        self.assertIs(steady_at(GAME, PRIZES, (-3, 1), FIRST, FIRST), True)
        self.assertIs(steady_at(GAME, PRIZES, part(-3 - little), FIRST, FIRST), False)
        self.assertIs(steady_at(GAME, PRIZES, part(-3 + little), FIRST, FIRST), True)
        self.assertIs(steady_at(GAME, PRIZES, (2, 1), ((3, 5), (2, 5)), SECOND), True)
        self.assertIs(steady_at(GAME, PRIZES, (2, 1), HALF, SECOND), True)
        self.assertIs(steady_at(GAME, PRIZES, (2, 1), FIRST, SECOND), False)

    def test_a_side_s_prizes_go_to_its_own_choices(self):
        # Prizes for rows are what the first side gets, prizes for columns what the second one does.
        nothing = filled(2, 2, 0)
        for prizes, best in ((((1, 0), (0, 0)), [(0, 0), (0, 1)]), (((0, 0), (0, 1)), [(0, 1), (1, 1)]),
                             (((0, 2), (3, 0)), [(1, 0)])):
            for row in (0, 1):
                for column in (0, 1):
                    pair = (FIRST, SECOND)[row], (FIRST, SECOND)[column]
                    self.assertIs(steady_at(nothing, prizes, (1, 9), *pair), (row, column) in best)
                    self.assertIs(steady_at(nothing, prizes, (0, 1), *pair), True)

    def test_at_nought_it_is_the_game_itself(self):
        draw = Random(717)
        for game in SMALL:
            prizes = drawn_prizes(draw, game, 1000)
            for pair in steady_corners(game)[:3] + [drawn_pair(draw, game)]:
                self.assertIs(steady_at(game, prizes, (0, 1), *pair), is_steady(game, *pair))


class Refused(unittest.TestCase):
    def test_in_sequence(self):
        for function, rest in ((steady_at, [(2, 4), None, None]), (pair_at, [(2, 4), None, None])):
            self.assertIs(type(refused(function, [None, None, *rest])), InvalidGame)
            self.assertIs(type(refused(function, [GAME, None, *rest])), InvalidPrizes)
            error = refused(function, [GAME, PRIZES, *rest])
            self.assertIs(type(error), InvalidNumber)
            self.assertEqual(error.value, (2, 4))
        for error_class, one, other, value in ((InvalidMix, None, [], None), (InvalidMix, FIRST, [], [])):
            error = refused(steady_at, [GAME, PRIZES, (1, 2), one, other])
            self.assertIs(type(error), error_class)
            self.assertEqual(error.value, value)
        for rows, columns, value in (((), [], ()), ((0,), [], []), ((0, 2), (0,), (0, 2)), ((0,), (2,), (2,))):
            for function, ahead in ((span, []), (pair_at, [(1, 2)])):
                error = refused(function, [GAME, PRIZES, *ahead, rows, columns])
                self.assertIs(type(error), InvalidLot)
                self.assertTrue(same(error.value, value))
                self.assertIs(type(refused(function, [GAME, (PRIZES[0],), *ahead, rows, columns])), InvalidPrizes)
                self.assertIs(type(refused(function, [(GAME,), (PRIZES[0],), *ahead, rows, columns])), InvalidGame)
        for function in (spans, turns):
            self.assertIs(type(refused(function, [None, None])), InvalidGame)
            self.assertIs(type(refused(function, [GAME, None])), InvalidPrizes)

    def test_prizes_that_are_none(self):
        wrong = [list(PRIZES), ([1, 0], (0, 0)), ((1, 0), [0, 0]), ((1, 0),), PRIZES + ((0,),), ((1,), (0, 0)),
                 ((1, 0), (0,)), ((1, 0, 0), (0, 0)), ((1, 0), (0, 0, 0)), ((1001, 0), (0, 0)), ((1, 0), (0, -1001)),
                 ((True, 0), (0, 0)), ((1, 0), (False, 0)), ((None, 0), (0, 0)), (((1, 1), (0, 1)), (0, 0)), (1, 0),
                 ((), ()), GAME]
        for value in wrong + ANYTHING + [Odd()]:
            for function, rest in ((spans, []), (turns, []), (span, [None, None]), (pair_at, [None, None, None])):
                error = refused(function, [GAME, value, *rest])
                self.assertIs(type(error), InvalidPrizes)
                self.assertTrue(same(error.value, value))
        # The first one tells rows, the second one columns, also where there are not as many of both.
        spans(OBLONG, ((1, 0), (0, 1, 0)))
        self.assertIs(type(refused(spans, [OBLONG, ((0, 1, 0), (1, 0))])), InvalidPrizes)
        widest = ((1000, -1000), (-1000, 1000))
        self.assertEqual(len(spans(GAME, widest)), len(right_spans(GAME, widest)))
        self.assertEqual(turns(ONE_ROW, ((1,), (1000, 0, 0, 0, 0))), [(3, 500)])

    def test_t_that_is_no_fraction(self):
        for value in ((2, 4), (0, 2), (1, 0), (1, -2), (-1, -1), [1, 2], (1,), (1, 2, 3), (True, 1), (1, True), "1/2",
                      1):
            for function, rest in ((steady_at, [FIRST, FIRST]), (pair_at, [(0,), (0,)])):
                error = refused(function, [GAME, PRIZES, value, *rest])
                self.assertIs(type(error), InvalidNumber)
                self.assertTrue(same(error.value, value))
        for value in ((0, 1), (-1, 2), (5, 1)):
            self.assertTrue(good_part(value))
            self.assertIs(type(steady_at(GAME, PRIZES, value, FIRST, FIRST)), bool)


if __name__ == "__main__":
    unittest.main()
