"""[3] Which error each function raises, with which value, and in which sequence."""

import copy
import unittest
from itertools import product

from steadymixes import errors
from steadymixes.blocks import block_weights, blocks_of
from steadymixes.corners import mean_of, weights_for
from steadymixes.games import best, even_mix, height, is_mix, lot, moved, turned, without
from steadymixes.islands import comes_out
from steadymixes.paths import led, path
from steadymixes.signs import sign, signed
from steadymixes.steady import lots_paper, steady_with
from tests.calls import CALLS, CLEAR_PAIR, COLUMN_MIX, LIKE, ROW_MIX, STEADY_PAIR, fitting, refused
from tests.judges import lists_in, parts, same
from tests.samples import ALIKE, ANYTHING, CLEAR, GAME, OBLONG, ONE_ROW, Odd, filled

ERRORS = {
    "game": errors.InvalidGame, "side": errors.InvalidSide, "row mix": errors.InvalidMix,
    "column mix": errors.InvalidMix, "row lot": errors.InvalidLot, "column lot": errors.InvalidLot,
    "row choice": errors.InvalidNumber, "column choice": errors.InvalidNumber, "column mixes": errors.InvalidMix,
    "weights": errors.InvalidNumber, "index": errors.InvalidNumber, "label": errors.InvalidLabel,
    "start": errors.NotSteady, "changes": errors.InvalidChanges, "rows": errors.InvalidNumber,
    "columns": errors.InvalidNumber, "table": errors.InvalidTable, "prizes": errors.InvalidPrizes,
    "t": errors.InvalidNumber, "game text": errors.Unreadable, "mix text": errors.Unreadable,
}

TABLE = ((0, 0), (0, 0))
WRONG = {
    "game": [None, [TABLE, TABLE], (TABLE, [[0, 0], [0, 0]]), (TABLE, ((0, 0), (0, True))), (TABLE, ((0, 0),)),
             (TABLE, ((0, 0), (0, 1001))), (((0,) * 6,), ((0,) * 6,)), (((0,),) * 6,) * 2, Odd(), {"game": [GAME]}],
    "side": [2, -1, True, False, None, "1", (1,), [1], [], 10 ** 300, b"1", {1: [1]}, Odd()],
    "row mix": [None, list(ROW_MIX), ([1, 3], (2, 3)), ((1, 3), (1, 3)), ((2, 6), (2, 3)), ((True, 1), (0, 1)),
                ((-1, 3), (4, 3)), COLUMN_MIX, ((1, 1),), (), [], Odd(), 0, "ab"],
    "column mix": [None, list(COLUMN_MIX), ((1, 2), [0, 1], (1, 2)), ((1, 2), (0, 2), (1, 2)), ROW_MIX, (), [],
                   ((1, 1), (False, 1), (0, 1)), ((1, 1), (1, 1), (-1, 1)), Odd(), 1, {"mix": [1]}],
    "row lot": [None, (), [0, 1], (1, 0), (0, 0), (0, 2), (2,), (-1,), (True,), (False, 1), ([0],), 0, "0", Odd()],
    "column lot": [None, (), [0], (2, 0), (0, 0, 1), (3,), (-1, 0), (0, True), ((0,),), (None,), 1, {0: 1}, Odd()],
    "row choice": [2, -1, 5, 10 ** 300, -10 ** 300],
    "column choice": [3, -1, 7, 10 ** 300, -10 ** 300],
    "weights": [None, [(1, 2), (1, 2)], ((1, 2),), ((1, 2), (1, 3)), ((2, 4), (1, 2)), ((3, 2), (-1, 2)), (), [],
                ((True, 1), (0, 1)), ([1, 2], (1, 2)), ((1, 3),) * 3, 0, "ab", Odd(), {"weights": [1]}],
    "index": [-1, 1, 2, 10 ** 300, -10 ** 300],
    "label": [None, (), [1, 2], (1, 3), (0, 2), (2, 0), (-1, 0), (0, -1), (1,), (1, 2, 0), (True, 2), (1, True),
              ("1", 2), (1, "2"), (1, None), ([1], 2), (1, [2]), ((1, 2),), 1, "12", Odd(), {"label": [1]}],
    "start": [(None, None), (None, CLEAR_PAIR[1]), (CLEAR_PAIR[0], None), list(CLEAR_PAIR), CLEAR_PAIR[::-1],
              CLEAR_PAIR[:1], CLEAR_PAIR + CLEAR_PAIR[:1], (ROW_MIX, COLUMN_MIX), (list(CLEAR_PAIR[0]), CLEAR_PAIR[1]),
              (CLEAR_PAIR[0], ((2, 5), (0, 3), (3, 5))), (CLEAR_PAIR[0], ((2, 5), (0, 1), [3, 5])),
              (CLEAR_PAIR[0], ((2, 5), (False, 1), (3, 5))), (), 0, False, "", Odd(), {"start": [1]}],
    "changes": [None, TABLE, (TABLE, TABLE), [TABLE, TABLE], (((0, 0, 0),) * 2,), (((0, 0, 0),) * 2, TABLE),
                (TABLE, ((0, 0, 0),) * 2), (((0, 0),) * 3,) * 2, (((0, 0, 0),) * 3,) * 2, (((0, 0, 0),),) * 2,
                (((0, 0, 0), (0, 0, 1001)), ((0, 0, 0),) * 2), (((0, 0, 0),) * 2, ((0, -1001, 0), (0, 0, 0))),
                (((0, 0, 0), (0, 0, True)), ((0, 0, 0),) * 2), (((0, 0, 0),) * 2, ((0, 0, 0), [0, 0, 0])),
                (((0, 0, 0), (0, 0)), ((0, 0, 0),) * 2), (((0, 0, 0),) * 2,) * 3, 0, "ab", Odd(), {"changes": [1]}],
    "rows": [0, 6, -1, -2, 10 ** 300, -10 ** 300],
    "columns": [0, 6, -1, -3, 10 ** 300, -10 ** 300],
    "table": [None, (), ((),), [[0]], ([0, 0], [0, 0]), ((0, 0), [0, 0]), [(0, 0), (0, 0)], ((0, 0), (0,)), ((0,) * 6,),
              ((0,),) * 6, ((0, 1001),), ((-1001,), (0,)), ((True,),), ((0, None),), ((0, "1"),), (0, 0), OBLONG, 0,
              "ab", Odd(), {"table": [1]}],
    "prizes": [None, (), ((0, 0),), [(0, 0), (0, 0, 0)], ([0, 0], (0, 0, 0)), ((0, 0), [0, 0, 0]), ((0, 0, 0), (0, 0)),
               ((0, 0), (0, 0)), ((0,), (0, 0, 0)), ((0, 0), (0, 0, 0), ()), ((), ()), ((0, 1001), (0, 0, 0)),
               ((0, 0), (-1001, 0, 0)), ((True, 0), (0, 0, 0)), ((0, 0), (0, False, 0)), ((0, 0), (0, None, 0)),
               ((0, 0), 0), OBLONG, 0, "ab", Odd(), {"prizes": [1]}],
    "t": [None, (), (1,), [1, 2], (1, 2, 3), (2, 4), (0, 2), (1, 0), (1, -2), (-1, -1), (True, 2), (1, True),
          (False, 1), ("1", 2), (1, None), ([1], 2), ((1, 2),), 1, 0, "1/2", Odd(), {"t": [1]}],
    "game text": [None, "", "1,1 ", "1,1 ; ", "01,1", "1,-0", "1,1 ;  2,2", "1001,0", OBLONG, [["1,1"]], b"1,1", 1,
                  Odd()],
    "mix text": [None, "", "1 ", "1/2  1/2", "2/4 1/2", "1/1", "01", "-0 1", "1/2 1/3", "1\n", COLUMN_MIX, ["1"], b"1",
                 1, Odd()],
}
WRONG["column mixes"] = [[COLUMN_MIX, wrong, None] for wrong in WRONG["column mix"]]
# What callers pass integers for, so that no other object is refused there.
INTEGERS = ("row choice", "column choice", "index", "rows", "columns")
for kind, like in LIKE.items():
    WRONG[kind], ERRORS[kind] = WRONG[like], ERRORS[like]


def value_of(kind, wrong):
    """What the error of a wrong argument must keep: of mixes the first that is none."""
    return wrong[1] if kind == "column mixes" else wrong


class EachByItself(unittest.TestCase):
    def test_the_error_of_a_wrong_argument(self):
        for function, parameters in CALLS:
            for at, (_, kind) in enumerate(parameters):
                for wrong in WRONG.get(kind, []):
                    arguments = fitting(parameters)
                    arguments[at] = wrong
                    with self.subTest(function.__name__, kind=kind, wrong=wrong):
                        error = refused(function, arguments)
                        self.assertIs(type(error), ERRORS[kind])
                        self.assertTrue(same(error.value, value_of(kind, wrong)), error.value)

    def test_objects_of_all_kinds_are_refused(self):
        fits = {"side": [0, 1], "label": [(0, 1)], "start": [None], "t": [(0, 1)],
                "table": [((0, 1),), ((1, 1),)]}
        taking = "game, clear game, side, row mix, clear other, label, start, changes, table, prizes, t, " \
            "game text, mix text".split(", ")
        for function, parameters in CALLS:
            for at, (_, kind) in enumerate(parameters):
                for wrong in ANYTHING if kind in taking else []:
                    if any(same(wrong, fit) for fit in fits.get(kind, [])):
                        continue
                    arguments = fitting(parameters)
                    arguments[at] = wrong
                    error = refused(function, arguments)
                    self.assertIs(type(error), ERRORS[kind])
                    self.assertTrue(same(error.value, wrong))

    def test_where_any_object_may_stand_none_is_refused(self):
        for function, parameters in CALLS:
            if parameters[-1][1] == "any":
                for value in ANYTHING + [wrong for told in WRONG.values() for wrong in told]:
                    arguments = fitting(parameters)
                    arguments[-1] = value
                    self.assertIs(type(function(*arguments)), bool)

    def test_a_lot_or_mix_of_the_other_side_is_none(self):
        for call, error, value in (
                (lambda: lot(OBLONG, 0, COLUMN_MIX), errors.InvalidMix, COLUMN_MIX),
                (lambda: best(OBLONG, 0, ROW_MIX), errors.InvalidMix, ROW_MIX),
                (lambda: best(OBLONG, 1, COLUMN_MIX), errors.InvalidMix, COLUMN_MIX),
                (lambda: height(OBLONG, 0, COLUMN_MIX), errors.InvalidMix, COLUMN_MIX),
                (lambda: height(OBLONG, 1, ROW_MIX), errors.InvalidMix, ROW_MIX),
                (lambda: even_mix(OBLONG, 0, (2,)), errors.InvalidLot, (2,)),
                (lambda: lots_paper(OBLONG, (2,), (0,)), errors.InvalidLot, (2,)),
                (lambda: steady_with(OBLONG, (0,), (0, 3)), errors.InvalidLot, (0, 3))):
            with self.assertRaises(error) as caught:
                call()
            self.assertEqual(caught.exception.value, value)


class Sequence(unittest.TestCase):
    def test_of_several_wrong_arguments_the_first_is_told(self):
        for function, parameters in CALLS:
            checked = [at for at, (_, kind) in enumerate(parameters) if kind in WRONG]
            for chosen in product((False, True), repeat=len(checked)):
                wrong_places = [at for at, wrong in zip(checked, chosen) if wrong]
                if len(wrong_places) < 2:
                    continue
                for draw in range(3):
                    arguments = fitting(parameters)
                    for at in wrong_places:
                        told = WRONG[parameters[at][1]]
                        arguments[at] = told[(draw * 5 + at) % len(told)]
                    first = wrong_places[0]
                    kind = parameters[first][1]
                    with self.subTest(function.__name__, arguments=arguments):
                        error = refused(function, arguments)
                        self.assertIs(type(error), ERRORS[kind])
                        self.assertTrue(same(error.value, value_of(kind, arguments[first])))

    def test_a_game_that_would_be_none_comes_last(self):
        far = 10 ** 6
        self.assertIs(type(refused(moved, [None, 2, 9, far])), errors.InvalidGame)
        self.assertIsNone(refused(moved, [None, 2, 9, far]).value)
        self.assertIs(type(refused(moved, [OBLONG, 2, 9, far])), errors.InvalidSide)
        self.assertIs(type(refused(moved, [OBLONG, 0, 3, far])), errors.InvalidNumber)
        error = refused(moved, [OBLONG, 0, 2, far])
        self.assertIs(type(error), errors.InvalidGame)
        self.assertEqual(error.value, (((5, 0, far + 2), (1, 4, far + 2)), OBLONG[1]))

    def test_the_only_choice_is_refused_behind_the_side(self):
        alone = (((1, 2),), ((3, 4),))
        self.assertIs(type(refused(without, [alone, 2, 0])), errors.InvalidSide)
        self.assertEqual(refused(without, [alone, 0, 0]).value, 0)
        self.assertIs(type(refused(without, [alone, 0, 0])), errors.InvalidNumber)

    def test_mixes_go_before_weights_and_before_the_mix(self):
        for function in (mean_of, weights_for):
            error = refused(function, [OBLONG, 1, [COLUMN_MIX, ROW_MIX, None], None])
            self.assertIs(type(error), errors.InvalidMix)
            self.assertEqual(error.value, ROW_MIX)
        self.assertIs(type(refused(mean_of, [OBLONG, 1, [COLUMN_MIX], None])), errors.InvalidNumber)
        self.assertIsNone(refused(weights_for, [OBLONG, 1, [], None]).value)


class Ties(unittest.TestCase):
    CALLS = [(function, parameters) for function, parameters in CALLS if parameters[0][1] == "clear game"]

    def test_they_are_told_ahead_of_all_but_the_game(self):
        self.assertEqual(len(self.CALLS), 5)
        for function, parameters in self.CALLS:
            for wrong in ([None] * 2, [[]] * 2, [COLUMN_MIX, ROW_MIX], fitting(parameters)[1:]):
                rest = wrong[:len(parameters) - 1]
                for game in (OBLONG, ALIKE, ONE_ROW, filled(5, 5, 0)):
                    error = refused(function, [game] + rest)
                    self.assertIs(type(error), errors.HasTies)
                    self.assertTrue(same(error.value, game))
                self.assertIs(type(refused(function, [(OBLONG,)] + rest)), errors.InvalidGame)

    def test_they_are_told_where_only_one_side_has_them(self):
        game = (((1, 2), (0, 5)), ((3, 3), (1, 3)))
        self.assertIs(type(refused(signed, [game])), errors.HasTies)
        self.assertIs(type(refused(signed, [turned(game)])), errors.HasTies)


class TwoMixes(unittest.TestCase):
    """A pair that is not steady is told of behind both mixes, with both."""

    def test_both_are_in_the_error(self):
        for function, game, pair in ((blocks_of, OBLONG, STEADY_PAIR), (sign, CLEAR, CLEAR_PAIR)):
            function(game, *pair)
            for one, other in ((ROW_MIX, pair[1]), (pair[0], COLUMN_MIX), (ROW_MIX, COLUMN_MIX)):
                error = refused(function, [game, one, other])
                self.assertIs(type(error), errors.NotSteady)
                self.assertTrue(same(error.value, (one, other)))
            for one, other, value in ((None, None, None), (None, COLUMN_MIX, None), (ROW_MIX, ROW_MIX, ROW_MIX),
                                      (COLUMN_MIX, pair[1], COLUMN_MIX), (ROW_MIX, [], [])):
                error = refused(function, [game, one, other])
                self.assertIs(type(error), errors.InvalidMix)
                self.assertTrue(same(error.value, value))

    def test_a_block_s_index_goes_ahead_of_the_mixes(self):
        self.assertIs(type(refused(block_weights, [OBLONG, 1, None, None])), errors.InvalidNumber)
        self.assertIs(type(refused(block_weights, [OBLONG, 0, None, 7])), errors.InvalidMix)
        self.assertEqual(refused(block_weights, [OBLONG, 0, ROW_MIX, 7]).value, 7)

    def test_labels_go_ahead_of_starts(self):
        for function in (path, led):
            error = refused(function, [CLEAR, (1, 3), (None, None)])
            self.assertIs(type(error), errors.InvalidLabel)
            self.assertEqual(error.value, (1, 3))
            error = refused(function, [CLEAR, (1, 2), (None, None)])
            self.assertIs(type(error), errors.NotSteady)
            self.assertEqual(error.value, (None, None))

    def test_tied_is_told_behind_changes_that_are_none(self):
        nothing = (((0, 0, 0),) * 2,) * 2
        error = refused(comes_out, [OBLONG, nothing])
        self.assertIs(type(error), errors.Tied)
        self.assertTrue(same(error.value, nothing))
        self.assertIs(type(refused(comes_out, [OBLONG, nothing[:1]])), errors.InvalidChanges)
        self.assertIs(type(refused(comes_out, [None, nothing[:1]])), errors.InvalidGame)
        self.assertEqual(len(comes_out(CLEAR, nothing)), 3)


class BuiltAnew(unittest.TestCase):
    def check(self, function, arguments, at, place=None):
        passed = arguments[at] if place is None else arguments[at][place]
        before = copy.deepcopy(passed)
        error = refused(function, arguments)
        self.assertTrue(same(error.value, before))
        kept = lists_in(error.value)
        self.assertEqual(len({id(told) for told in kept}), len(kept))
        self.assertFalse({id(told) for told in kept} & {id(told) for told in lists_in(passed)})
        for told in lists_in(passed):
            told.append("later")
        self.assertTrue(same(error.value, before), error.value)
        return error

    def wrong_objects(self):
        twice = [1]
        deep = [0]
        for _ in range(98):
            deep = [deep]
        return [[], [[]], ([],), [1, [2, [3]], ([4], [[5]])], (1, ([2], ([3],))), [twice, twice], (twice, [twice]),
                deep, [None, True, "a", ([False],)], [[[0, 0]], [[0, 0]]], [((1, 1), [0, 1])]]

    def test_lists_in_what_is_refused(self):
        for function, parameters in CALLS:
            for at, (_, kind) in enumerate(parameters):
                if kind not in WRONG or kind in INTEGERS or kind == "column mixes":
                    continue
                for wrong in self.wrong_objects():
                    arguments = fitting(parameters)
                    arguments[at] = wrong
                    with self.subTest(function.__name__, kind=kind):
                        self.check(function, arguments, at)

    def test_lists_in_a_refused_one_of_several_mixes(self):
        for function in (mean_of, weights_for):
            for wrong in self.wrong_objects():
                self.check(function, [OBLONG, 1, [COLUMN_MIX, wrong], COLUMN_MIX], 2, 1)

    def test_a_tuple_stays_a_tuple_and_a_list_a_list(self):
        error = refused(is_mix, [([1, (2, [3])], (4, [5])), 0, None])
        self.assertTrue(same(error.value, ([1, (2, [3])], (4, [5]))))

    def test_an_object_of_another_kind_is_kept(self):
        held = Odd()
        self.assertIs(refused(is_mix, [held, 0, None]).value, held)
        self.assertIs(refused(is_mix, [[(held,)], 0, None]).value[0][0], held)

    def test_dicts_and_sets_are_told_as_they_are(self):
        for value in ({"a": [1, (2,)]}, {1, 2}, [{"a": [1]}, {(1, 2)}], ({}, [])):
            self.assertEqual(refused(is_mix, [value, 0, None]).value, value)
            self.assertEqual(refused(lot, [GAME, value, None]).value, value)

    def test_a_call_that_raises_changes_nothing(self):
        mixes = [COLUMN_MIX, [((1, 1), (0, 1))], parts(1, 1, 1)]
        before = copy.deepcopy(mixes)
        refused(mean_of, [OBLONG, 1, mixes, ((1, 1),)])
        self.assertTrue(same(mixes, before))
        again = [refused(weights_for, [OBLONG, 1, mixes, COLUMN_MIX]).value for _ in range(2)]
        self.assertIsNot(again[0], again[1])
        self.assertTrue(same(again[0], again[1]))


if __name__ == "__main__":
    unittest.main()
