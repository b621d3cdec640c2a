"""[34] A live game: its deeds, what is taken back, its looks and its twins."""

import unittest
from random import Random

from steadymixes.blocks import blocks
from steadymixes.errors import HasTies, InvalidGame, InvalidMix, InvalidNumber, InvalidSide, MixError, Nothing
from steadymixes.games import is_game, moved, without
from steadymixes.live import Live
from steadymixes.signs import signed, tie
from steadymixes.steady import is_steady, pure
from steadymixes.striking import left
from tests.calls import refused
from tests.judges import lists_in, parts, same, size, steady
from tests.samples import (ALIKE, ANYTHING, CLEAR, GAME, IDLE, LARGE, OBLONG, ONE_COLUMN, ONE_FIELD, ONE_ROW, PENNIES,
                           ROCK, SMALL, TWOFOLD, Odd, drawn_games, drawn_pair, filled)

FIRST, SECOND, HALF = ((1, 1), (0, 1)), ((0, 1), (1, 1)), ((1, 2), (1, 2))


def with_number(game, side, row, column, number):
    tables = [[list(numbers) for numbers in table] for table in game]
    tables[side][row][column] = number
    return tuple(tuple(tuple(numbers) for numbers in table) for table in tables)


def done(game, deed):
    """The game behind a deed."""
    word, *arguments = deed
    return {"put": with_number, "move": moved, "drop": without}[word](game, *arguments)


def do(live, deed):
    word, *arguments = deed
    return {"put": live.put, "move": live.move, "drop": live.drop}[word](*arguments)


def drawn_deed(draw, game):
    """A deed that fits the game."""
    side = draw.randrange(2)
    words = ["put", "put", "move"] + (["drop"] if size(game, side) > 1 else [])
    word = draw.choice(words)
    if word == "put":
        row, column = draw.randrange(size(game, 0)), draw.randrange(size(game, 1))
        return word, side, row, column, draw.choice((0, 5, -1000, 1000))
    if word == "drop":
        return word, side, draw.randrange(size(game, side))
    return word, side, draw.randrange(size(game, 1 - side)), draw.choice((0, 1, -1, 3))


def drawn_deeds(draw, game, many):
    """Deeds that fit one behind the other, and the games behind each."""
    deeds, games = [], [game]
    while len(deeds) < many:
        deed = drawn_deed(draw, games[-1])
        if deed[0] != "move" or not moves_out(games[-1], deed):
            deeds.append(deed)
            games.append(done(games[-1], deed))
    return deeds, games


def moves_out(game, deed):
    try:
        moved(game, *deed[1:])
    except InvalidGame:
        return True
    return False


def looks(live):
    """All looks at a Live, an error in the place of what it refuses."""
    try:
        signs = live.signed()
    except HasTies as error:
        signs = ("HasTies", error.value)
    return [live.game, live.pure(), live.blocks(), live.tie(), live.left(), signs]


def looks_of(game):
    signs = signed(game) if tie(game) is None else ("HasTies", game)
    return [game, pure(game), blocks(game), tie(game), left(game), signs]


class New(unittest.TestCase):
    def test_a_new_one(self):
        for game in SMALL + LARGE:
            live = Live(game)
            self.assertTrue(same(live.game, game))
            self.assertTrue(same(live.story, ()))
            self.assertEqual(len(live), 0)
        self.assertEqual(Live(game=GAME).game, GAME)
        self.assertRaises(TypeError, Live)

    def test_what_is_no_game(self):
        for value in ANYTHING + [list(GAME), (GAME[0],), (GAME[0], ((0, 0), (0, 1001))), (GAME[0], OBLONG[1]), Odd()]:
            error = refused(Live, [value])
            self.assertIs(type(error), InvalidGame)
            self.assertTrue(same(error.value, value))

    def test_what_is_refused_is_built_anew(self):
        value = [[1, [2]], ([3],)]
        error = refused(Live, [value])
        value[0].append("later")
        value[1][0].clear()
        self.assertTrue(same(error.value, [[1, [2]], ([3],)]))

    def test_each_of_its_own_is_defined_in_the_class(self):
        for name in "put move drop back game story pure blocks tie left signed is_steady twin __len__ __eq__".split():
            self.assertIn(name, vars(Live))
        self.assertIsInstance(vars(Live)["game"], property)
        self.assertIsInstance(vars(Live)["story"], property)


class Deeds(unittest.TestCase):
    def test_known_ones(self):
        live = Live(GAME)
        self.assertIsNone(live.put(0, 1, 1, -1))
        self.assertEqual(live.game, (((3, 0), (0, -1)), ((2, 0), (0, 3))))
        self.assertIsNone(live.move(1, 0, 7))
        self.assertEqual(live.game, (((3, 0), (0, -1)), ((9, 7), (0, 3))))
        self.assertIsNone(live.drop(1, 0))
        self.assertEqual(live.game, (((0,), (-1,)), ((7,), (3,))))
        self.assertEqual(live.story, (("put", 0, 1, 1, -1), ("move", 1, 0, 7), ("drop", 1, 0)))
        self.assertEqual(len(live), 3)
        self.assertEqual([live.back(), live.back(), live.back()], ["drop", "move", "put"])
        self.assertEqual((live.game, live.story, len(live)), (GAME, (), 0))

    def test_rows_and_columns_stay_such_for_both_sides(self):
        live = Live(OBLONG)
        live.put(0, 1, 2, 100)
        live.put(1, 0, 2, -100)
        self.assertEqual(live.game, (((5, 0, 2), (1, 4, 100)), ((0, 3, -100), (2, -1, 1))))
        live.move(0, 2, 9)
        live.move(1, 1, 5)
        self.assertEqual(live.game, (((5, 0, 11), (1, 4, 109)), ((0, 3, -100), (7, 4, 6))))
        live.drop(1, 1)
        self.assertEqual(live.game, (((5, 11), (1, 109)), ((0, -100), (7, 6))))
        live.drop(0, 0)
        self.assertEqual(live.game, (((1, 109),), ((7, 6),)))

    def test_by_name(self):
        live = Live(OBLONG)
        self.assertIsNone(live.put(number=8, column=2, row=1, side=1))
        self.assertIsNone(live.move(number=-1, choice=2, side=0))
        self.assertIsNone(live.drop(choice=0, side=0))
        self.assertEqual(live.story, (("put", 1, 1, 2, 8), ("move", 0, 2, -1), ("drop", 0, 0)))
        self.assertIs(live.is_steady(other=parts(0, 1, 0), one=((1, 1),)), False)
        self.assertIs(live.is_steady(other=parts(0, 0, 1), one=((1, 1),)), True)

    def test_in_a_row_and_taken_back_one_by_one(self):
        draw = Random(1001)
        for game in SMALL + LARGE + drawn_games(30, 1002):
            deeds, games = drawn_deeds(draw, game, 12)
            live = Live(game)
            for at, deed in enumerate(deeds):
                self.assertIsNone(do(live, deed))
                self.assertTrue(same(live.game, games[at + 1]), deed)
                self.assertTrue(same(live.story, tuple(deeds[:at + 1])))
                self.assertEqual(len(live), at + 1)
            for at in range(11, -1, -1):
                self.assertEqual(live.back(), deeds[at][0])
                self.assertTrue(same(live.game, games[at]))
                self.assertTrue(same(live.story, tuple(deeds[:at])))
            self.nothing(live)

    def nothing(self, live):
        """Of a Live on which no deed stands nothing is taken back."""
        with self.assertRaises(Nothing) as caught:
            live.back()
        self.assertIsNone(caught.exception.value)
        self.assertEqual((live.story, len(live)), ((), 0))

    def test_back_and_on_again(self):
        live = Live(GAME)
        self.nothing(live)
        live.put(0, 0, 0, 1)
        live.back()
        live.drop(0, 1)
        self.assertEqual(live.story, (("drop", 0, 1),))
        self.assertEqual(live.game, (((3, 0),), ((2, 0),)))
        self.assertEqual(live.back(), "drop")
        self.nothing(live)
        self.nothing(live)
        self.assertEqual(live.game, GAME)

    def test_deeds_that_change_no_number(self):
        live = Live(GAME)
        live.put(0, 0, 0, 3)
        live.move(1, 1, 0)
        self.assertEqual(live.game, GAME)
        self.assertEqual(live.story, (("put", 0, 0, 0, 3), ("move", 1, 1, 0)))
        self.assertEqual(len(live), 2)
        self.assertEqual([live.back(), live.back()], ["move", "put"])

    def test_numbers_at_the_bounds(self):
        live = Live(ONE_FIELD)
        live.put(0, 0, 0, 1000)
        live.put(1, 0, 0, -1000)
        self.assertEqual(live.game, (((1000,),), ((-1000,),)))
        live.move(0, 0, -2000)
        live.move(1, 0, 2000)
        self.assertEqual(live.game, ONE_FIELD)


class Refused(unittest.TestCase):
    def check(self, live, word, arguments, kind, value):
        """A deed that is refused changes nothing, and does not stand."""
        before = (live.game, live.story, len(live))
        try:
            told = do(live, (word, *arguments))
        except MixError as error:
            self.assertIs(type(error), kind)
            self.assertTrue(same(error.value, value), error.value)
        else:
            self.fail(f"{word}{tuple(arguments)} told {told}")
        self.assertTrue(same((live.game, live.story, len(live)), before))

    def lives(self):
        """Lives of OBLONG, without deeds and with some."""
        fresh, worked = Live(OBLONG), Live((OBLONG[0] + ((0, 0, 0),), OBLONG[1] + ((1, 1, 1),)))
        worked.put(0, 1, 1, 9)
        worked.back()
        worked.drop(0, 2)
        worked.move(1, 0, 1)
        worked.move(1, 0, -1)
        self.assertEqual(worked.game, OBLONG)
        return fresh, worked

    def test_sides(self):
        for live in self.lives():
            for side in (2, -1, None, True, False, "0", [0], (1,), Odd(), 10 ** 40):
                for word, rest in (("put", [9, 9, 9999]), ("put", [0, 0, 0]), ("move", [9, 9999]), ("move", [0, 0]),
                                   ("drop", [9]), ("drop", [0])):
                    self.check(live, word, [side, *rest], InvalidSide, side)

    def test_the_first_of_several_numbers(self):
        for live in self.lives():
            for side in (0, 1):
                for row, column, number, value in (
                        (2, 3, 1001, 2), (-1, 0, 0, -1), (0, 3, -1001, 3), (1, -2, 5, -2), (1, 2, 1001, 1001),
                        (0, 0, -1001, -1001), (2, 0, 0, 2), (10 ** 40, -1, 0, 10 ** 40), (0, 0, 10 ** 40, 10 ** 40)):
                    self.check(live, "put", [side, row, column, number], InvalidNumber, value)
            for side, choice in ((0, 3), (0, -1), (1, 2), (1, -1), (1, 10 ** 40)):
                self.check(live, "move", [side, choice, 9999], InvalidNumber, choice)
                self.check(live, "move", [side, choice, 0], InvalidNumber, choice)
            for side, choice in ((0, 2), (0, -1), (1, 3), (1, -1), (1, 10 ** 40)):
                self.check(live, "drop", [side, choice], InvalidNumber, choice)

    def test_a_game_that_would_be_none(self):
        for live in self.lives():
            self.check(live, "move", [0, 0, 996], InvalidGame, (((1001, 0, 2), (997, 4, 2)), OBLONG[1]))
            self.check(live, "move", [1, 1, -1000], InvalidGame, (OBLONG[0], ((0, 3, 1), (-998, -1001, -999))))
            self.check(live, "move", [0, 2, 10 ** 40], InvalidGame,
                       (((5, 0, 2 + 10 ** 40), (1, 4, 2 + 10 ** 40)), OBLONG[1]))

    def test_the_only_choice(self):
        for game, side in ((ONE_ROW, 0), (ONE_COLUMN, 1), (ONE_FIELD, 0), (ONE_FIELD, 1)):
            self.check(Live(game), "drop", [side, 0], InvalidNumber, 0)
        live = Live(GAME)
        live.drop(0, 0)
        self.check(live, "drop", [0, 0], InvalidNumber, 0)
        self.check(live, "put", [0, 1, 0, 0], InvalidNumber, 1)

    def test_looks_that_are_refused(self):
        for game in (ALIKE, IDLE, OBLONG, filled(5, 5, 0)):
            live = Live(game)
            live.move(0, 0, 0)
            with self.assertRaises(HasTies) as caught:
                live.signed()
            self.assertTrue(same(caught.exception.value, game))
            self.assertEqual(len(live), 1)
        live = Live(OBLONG)
        three = parts(1, 1, 1)
        for one, other, value in ((None, [], None), (HALF, HALF, HALF), (three, [], three), (HALF, [], [])):
            error = refused(live.is_steady, [one, other])
            self.assertIs(type(error), InvalidMix)
            self.assertTrue(same(error.value, value))


class Looks(unittest.TestCase):
    def test_they_are_what_the_functions_tell(self):
        draw = Random(1003)
        for game in SMALL + LARGE[:3] + [CLEAR, TWOFOLD] + drawn_games(25, 1004, bounds=(0, 1, 9)):
            live = Live(game)
            deeds, games = drawn_deeds(draw, game, 4)
            self.assertTrue(same(looks(live), looks_of(game)))
            for deed, there in zip(deeds, games[1:]):
                do(live, deed)
                self.assertTrue(same(looks(live), looks_of(there)))
                for pair in [drawn_pair(draw, there), (blocks(there)[0][0][0], blocks(there)[0][1][-1])]:
                    self.assertIs(live.is_steady(*pair), steady(there, *pair))
                    self.assertIs(live.is_steady(*pair), is_steady(there, *pair))
            while len(live):
                live.back()
            self.assertTrue(same(looks(live), looks_of(game)))

    def test_looks_change_nothing(self):
        live = Live(GAME)
        live.put(0, 1, 1, -1)
        before = looks(live)
        for _ in range(3):
            self.assertTrue(same(looks(live), before))
            self.assertIs(live.is_steady(FIRST, FIRST), True)
        self.assertEqual(live.story, (("put", 0, 1, 1, -1),))

    def test_what_is_told_can_be_changed(self):
        for game in (GAME, CLEAR, TWOFOLD, ROCK):
            live = Live(game)
            live.move(0, 0, 0)
            told = looks(live)
            self.assertEqual(len({id(found) for found in lists_in(told) + lists_in(looks(live))}),
                             len(lists_in(told)) + len(lists_in(looks(live))))
            for found in lists_in(told)[1:]:
                found.clear()
            self.assertTrue(same(looks(live), looks_of(game)))
            self.assertTrue(same(live.story, (("move", 0, 0, 0),)))

    def test_the_story_is_a_tuple_of_its_own_time(self):
        live = Live(GAME)
        early = live.story
        live.put(0, 0, 0, 1)
        late = live.story
        live.back()
        self.assertEqual((early, late), ((), (("put", 0, 0, 0, 1),)))
        self.assertIs(type(late), tuple)
        self.assertIs(type(late[0]), tuple)

    def test_its_looks_are_not_set_from_without(self):
        live = Live(GAME)
        for name in ("game", "story"):
            with self.assertRaises(AttributeError):
                setattr(live, name, ())
        self.assertIs(is_game(live.game), True)


class Twins(unittest.TestCase):
    def test_they_are_apart(self):
        draw = Random(1005)
        for game in SMALL + drawn_games(10, 1006):
            deeds, games = drawn_deeds(draw, game, 5)
            live = Live(game)
            for deed in deeds:
                do(live, deed)
            twin = live.twin()
            self.assertIs(type(twin), Live)
            self.assertIsNot(twin, live)
            self.assertTrue(same((twin.game, twin.story, len(twin)), (live.game, live.story, len(live))))
            further = drawn_deed(draw, live.game)
            while further[0] == "move" and moves_out(live.game, further):
                further = drawn_deed(draw, live.game)
            do(twin, further)
            self.assertTrue(same((live.game, live.story), (games[-1], tuple(deeds))))
            self.assertEqual(live.back(), deeds[-1][0])
            self.assertTrue(same(twin.game, done(games[-1], further)))
            self.assertTrue(same(twin.story, tuple(deeds) + (further,)))
            self.assertEqual([twin.back() for _ in range(6)], [deed[0] for deed in deeds + [further]][::-1])
            self.assertTrue(same(twin.game, game))
            self.assertTrue(same(live.story, tuple(deeds[:-1])))
            self.assertRaises(Nothing, twin.back)
            self.assertEqual(len(live), 4)

    def test_twins_of_twins(self):
        live = Live(GAME)
        live.drop(0, 0)
        twin = live.twin().twin()
        live.back()
        self.assertEqual(twin.story, (("drop", 0, 0),))
        self.assertEqual(twin.back(), "drop")
        self.assertEqual(twin, live)
        self.assertEqual(len(live.twin()), 0)


class Equal(unittest.TestCase):
    def test_to_one_with_an_equal_game_whatever_the_story(self):
        one, other = Live(GAME), Live(GAME)
        self.assertTrue(one == other)
        self.assertFalse(one != other)
        one.move(0, 0, 0)
        self.assertTrue(one == other and other == one)
        one.put(0, 0, 0, 4)
        self.assertFalse(one == other or other == one)
        self.assertTrue(one != other)
        other.put(0, 0, 0, 5)
        other.put(0, 0, 0, 4)
        self.assertTrue(one == other)
        self.assertNotEqual(one.story, other.story)
        one.back()
        self.assertFalse(one == other)
        self.assertTrue(one == one and one == one.twin())

    def test_to_no_other_object(self):
        live = Live(GAME)
        for value in ANYTHING + [GAME, (GAME,), Odd(), live.story, object()]:
            self.assertIs(live == value, False)
            self.assertIs(value == live, False)
            self.assertIs(live != value, True)
        for game in (PENNIES, ALIKE, OBLONG, ONE_FIELD, (GAME[1], GAME[0])):
            self.assertIs(live == Live(game), False)
        self.assertIs(type(live == Live(GAME)), bool)

    def test_len(self):
        live = Live(GAME)
        for many in range(1, 40):
            live.move(0, 0, 0)
            self.assertEqual(len(live), many)
        live.back()
        self.assertEqual(len(live), 38)


if __name__ == "__main__":
    unittest.main()
