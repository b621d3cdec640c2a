"""[37] A desk at which a game is worked on by lines of text."""

import copy
import re
import unittest
from random import Random

from steadymixes.desk import Desk
from steadymixes.errors import (HasTies, InvalidCommand, InvalidGame, InvalidMix, InvalidNumber, InvalidSide, MixError,
                                Nothing, NotReady)
from steadymixes.live import Live
from steadymixes.texts import show_blocks, show_game, show_mix
from tests.calls import refused
from tests.judges import lists_in, lot_of, lots, parts, same, sign_of, size, steady, steady_corners, tied
from tests.samples import (ALIKE, ANYTHING, CLEAR, GAME, IDLE, LARGE, OBLONG, ONE_COLUMN, ONE_FIELD, ONE_ROW, PENNIES,
                           ROCK, SMALL, Odd, drawn_games, drawn_pair, filled, long_mix)
from tests.test_live import do, drawn_deeds
from tests.test_reading import right_game, right_mix

GAME_TEXT = "3,2 0,0 ; 0,0 2,3"
WORDS = "back show pure blocks left tie signs".split()
DEEDS = ("put 0 1 1 -1", "move 1 0 2", "drop 0 1")
INTEGERS = {"put": 4, "move": 3, "drop": 2}


def at_work(game=GAME):
    desk = Desk()
    assert desk.execute("game " + show_game(game)) == "ok"
    return desk


def is_command(line):
    """Whether a text is a command, by patterns of whole texts."""
    whole = "(0|-?[1-9][0-9]{0,29})"
    patterns = [f"{word}( {whole}){{{many}}}" for word, many in INTEGERS.items()]
    if line in WORDS or any(re.fullmatch(pattern, line) for pattern in patterns):
        return True
    if line.startswith("game "):
        return right_game(line[5:]) is not None
    mixes = line[7:].split(" x ")
    return line.startswith("steady ") and len(mixes) == 2 and None not in [right_mix(mix) for mix in mixes]


class Example(unittest.TestCase):
    def test_the_document_s_own(self):
        desk = Desk()
        lines = ["game 3,2 0,0 ; 0,0 2,3", "pure", "signs", "left", "put 0 1 1 -1", "left", "back",
                 "steady 3/5 2/5 x 2/5 3/5"]
        self.assertEqual([desk.execute(line) for line in lines],
                         ["ok", "0 0, 1 1", "+ - +", "0 1 ; 0 1", "ok", "0 ; 0", "put", "yes"])


class Commands(unittest.TestCase):
    def test_game_and_show(self):
        for game in SMALL + LARGE + drawn_games(20, 1101):
            desk = Desk()
            self.assertEqual(desk.execute("game " + show_game(game)), "ok")
            self.assertEqual(desk.execute("show"), show_game(game))
        self.assertEqual(Desk().execute(line="game 0,0"), "ok")

    def test_game_anew(self):
        desk = at_work()
        for line in DEEDS:
            desk.execute(line)
        self.assertEqual(desk.execute("game 5,5"), "ok")
        self.assertEqual(desk.execute("show"), "5,5")
        self.assertIs(type(refused(desk.execute, ["back"])), Nothing)
        self.assertEqual(desk.execute("game " + GAME_TEXT), "ok")
        self.assertEqual(desk.execute("show"), GAME_TEXT)

    def test_put_move_drop_and_back(self):
        desk = at_work()
        for line, shown in (("put 0 1 1 -1", "3,2 0,0 ; 0,0 -1,3"), ("put 1 0 1 1000", "3,2 0,1000 ; 0,0 -1,3"),
                            ("move 0 1 7", "3,2 7,1000 ; 0,0 6,3"), ("move 1 1 -3", "3,2 7,1000 ; 0,-3 6,0"),
                            ("move 0 0 0", "3,2 7,1000 ; 0,-3 6,0"), ("drop 1 0", "7,1000 ; 6,0"),
                            ("drop 0 1", "7,1000")):
            self.assertEqual(desk.execute(line), "ok")
            self.assertEqual(desk.execute("show"), shown)
        self.assertEqual([desk.execute("back") for _ in range(7)], "drop drop move move move put put".split())
        self.assertEqual(desk.execute("show"), GAME_TEXT)

    def test_deeds_as_a_live_does_them(self):
        draw = Random(1102)
        for game in SMALL + drawn_games(20, 1103):
            desk, live = at_work(game), Live(game)
            for deed in drawn_deeds(draw, game, 6)[0]:
                self.assertEqual(desk.execute(" ".join(str(part) for part in deed)), "ok")
                do(live, deed)
                self.assertEqual(desk.execute("show"), show_game(live.game))
                self.assertEqual(desk.execute("blocks"), show_blocks(live.game, live.blocks()))
            for deed in live.story[::-1]:
                self.assertEqual(desk.execute("back"), deed[0])
                live.back()
                self.assertEqual(desk.execute("show"), show_game(live.game))

    def test_pure(self):
        for game, text in ((GAME, "0 0, 1 1"), (PENNIES, "-"), (ROCK, "-"), (ALIKE, "0 0, 0 1, 1 0"),
                           (ONE_FIELD, "0 0"), (ONE_ROW, "0 1, 0 3, 0 4"), (ONE_COLUMN, "1 0, 3 0, 4 0"),
                           (IDLE, "0 0, 1 1")):
            self.assertEqual(at_work(game).execute("pure"), text)
        self.assertEqual(len(at_work(filled(5, 5, 0)).execute("pure").split(", ")), 25)

    def test_blocks(self):
        for game, text in ((GAME, "0 1 x 0 1 ; 3/5 2/5 x 2/5 3/5 ; 1 0 x 1 0"), (PENNIES, "1/2 1/2 x 1/2 1/2"),
                           (ALIKE, "0 1 , 1 0 x 1 0 ; 1 0 x 0 1 , 1 0"), (ONE_FIELD, "1 x 1"),
                           (IDLE, "0 1 x 0 1 ; 1 0 x 1 0")):
            self.assertEqual(at_work(game).execute("blocks"), text)

    def test_left(self):
        for game, text in ((GAME, "0 1 ; 0 1"), (ONE_ROW, "0 ; 1 3 4"), (ONE_COLUMN, "1 3 4 ; 0"), (ONE_FIELD, "0 ; 0"),
                           (filled(5, 4, 1), "0 1 2 3 4 ; 0 1 2 3"), ((((2, 0), (3, 1)), ((2, 3), (0, 1))), "1 ; 1")):
            self.assertEqual(at_work(game).execute("left"), text)

    def test_tie(self):
        for game in SMALL + drawn_games(30, 1104):
            self.assertEqual(at_work(game).execute("tie"), "yes" if tied(game) else "no")
        self.assertEqual([at_work(game).execute("tie") for game in (GAME, ALIKE)], ["no", "yes"])

    def test_signs(self):
        seen = set()
        for game in [GAME, CLEAR, ROCK, ONE_FIELD] + drawn_games(40, 1105):
            if not tied(game):
                signs = ["+" if sign_of(game, pair) > 0 else "-" for pair in steady_corners(game)]
                self.assertEqual(at_work(game).execute("signs"), " ".join(signs))
                seen.add(len(signs))
        self.assertLessEqual({1, 3}, seen)

    def test_steady(self):
        draw = Random(1106)
        found = set()
        for game in SMALL + drawn_games(15, 1107, bounds=(0, 1, 9)):
            desk = at_work(game)
            for one, other in steady_corners(game)[:2] + [drawn_pair(draw, game)]:
                told = desk.execute(f"steady {show_mix(one)} x {show_mix(other)}")
                self.assertEqual(told, "yes" if steady(game, one, other) else "no")
                found.add(told)
        self.assertEqual(found, {"yes", "no"})
        desk = at_work(filled(3, 2, 0))
        self.assertEqual(desk.execute(f"steady {show_mix(long_mix(draw, 3))} x {show_mix(long_mix(draw, 2))}"), "yes")

    def test_what_is_asked_changes_nothing(self):
        desk = at_work()
        desk.execute("put 0 1 1 -1")
        for line in ("show", "pure", "blocks", "left", "tie", "signs", "steady 1 0 x 1 0", "steady 0 1 x 0 1"):
            told = desk.execute(line)
            self.assertIs(type(told), str)
            self.assertEqual(desk.execute(line), told)
        self.assertEqual(desk.execute("back"), "put")
        self.assertIs(type(refused(desk.execute, ["back"])), Nothing)

    def test_two_desks_are_apart(self):
        one, other = at_work(), at_work(PENNIES)
        one.execute("drop 0 0")
        self.assertEqual(other.execute("show"), show_game(PENNIES))
        self.assertIs(type(refused(other.execute, ["back"])), Nothing)
        other.execute("put 0 0 0 7")
        self.assertEqual([one.execute("back"), other.execute("back")], ["drop", "put"])
        self.assertIs(type(refused(Desk().execute, ["show"])), NotReady)

    def test_it_is_made_of_nothing(self):
        self.assertRaises(TypeError, Desk, GAME)
        self.assertIn("execute", vars(Desk))


class NoCommands(unittest.TestCase):
    def check(self, line):
        """A line that is no command is refused by a desk without a Live and by one with it, and changes nothing."""
        desk = at_work()
        desk.execute("move 0 0 0")
        for asked in (Desk(), desk):
            error = refused(asked.execute, [line])
            self.assertIs(type(error), InvalidCommand)
            self.assertTrue(same(error.value, line))
        self.assertEqual(desk.execute("show"), GAME_TEXT)
        self.assertEqual(desk.execute("back"), "move")
        self.assertIs(type(refused(desk.execute, ["back"])), Nothing)

    def test_words(self):
        for word in WORDS:
            for line in (word + " ", " " + word, word + " 0", word.upper(), word.title(), word[:-1], word + "s",
                         word + "\n", "\n" + word, word + " " + word, word[::-1], word + "  "):
                self.check(line)
        for line in ("", " ", "\n", "ok", "exit", "help", "twin", "story", "len", "0", "-", "x", "moved", "without",
                     "signed"):
            self.check(line)

    def test_integers(self):
        for right in DEEDS + ("put 1 0 0 1000", "move 0 1 -7", "drop 1 0"):
            at_work().execute(right)
            words = right.split(" ")
            for line in (right + " ", " " + right, right.replace(" ", "  ", 1), right + " 0", " ".join(words[:-1]),
                         words[0], words[0] + " ", right + "\n", right.replace(" ", "\n"), right.replace(" ", ","),
                         " ".join(words[1:] + words[:1]), " ".join(words[::-1]), right.upper()):
                self.check(line)
            for at in range(1, len(words)):
                for wrong in ("", "-", "+1", "-0", "00", "01", "-01", "1.0", "1/1", "x", "1e1", "1_0", "0x1", "None",
                              "True", "1" + "0" * 30, "-1" + "0" * 30, "9" * 31, "9" * 400, "--1", "1-"):
                    self.check(" ".join(words[:at] + [wrong] + words[at + 1:]))

    def test_games(self):
        for text in ("", " ", "3", "3,2 0,0 ;0,0 2,3", "3,2 0,0 ; 0,0", "3,2 0,0 ; 0,0 2,3 ", " 3,2", "3,2  0,0",
                     "1001,0", "3,02", "+3,2", "-0,0", "3,2;0,0", "3,2\n", "3,2 ; ", "1,1 " * 5 + "1,1",
                     "0,0 ; " * 5 + "0,0"):
            self.check("game " + text)
        for line in ("game", "game" + GAME_TEXT, "Game " + GAME_TEXT, GAME_TEXT, GAME_TEXT + " game",
                     "games " + GAME_TEXT, "game\n" + GAME_TEXT, "new " + GAME_TEXT, "game  " + GAME_TEXT):
            self.check(line)

    def test_mixes(self):
        right = "steady 3/5 2/5 x 2/5 3/5"
        at_work().execute(right)
        for line in (right + " ", " " + right, right.replace(" x ", " "), right.replace(" x ", "  x "), right + " x 1",
                     right.replace(" x ", " X "), right.replace(" x ", "x"), right.replace(" x ", " x"), "steady",
                     "steady ", "steady 1", "steady x", "steady 1 x", "steady x 1", "steady  x ", "steady 1 x ",
                     "steady  x 1", "steady 3/5 2/5 x 2/5 2/5", "steady 6/10 2/5 x 1", "steady 1/1 x 1",
                     "steady 0/1 1 x 1", "steady -0 1 x 1", "steady 1 x 01", "steady 2 -1 x 1",
                     "steady 1 0 0 0 0 0 x 1", "steady 1 x 1 0 0 0 0 0", "steady 1 x 2/4 1/2",
                     right.replace("3/5", "3 / 5"), right + "\n", "steady\n3/5 2/5 x 2/5 3/5", "Steady 1 x 1",
                     "steady 0 x 1", f"steady 1/{10 ** 300} {10 ** 300 - 1}/{10 ** 300} x 1"):
            self.check(line)

    def test_objects_of_all_kinds(self):
        for value in ANYTHING + [["show"], ("show",), b"show", {"show": 1}, Odd(), Desk, Live(GAME),
                                 [["game", GAME_TEXT]]]:
            if type(value) is not str:
                for desk in (Desk(), at_work()):
                    error = refused(desk.execute, [value])
                    self.assertIs(type(error), InvalidCommand)
                    self.assertTrue(same(error.value, value))

    def test_lists_in_what_is_refused_are_built_anew(self):
        value = [["show"], ("pure", ["left"])]
        before = copy.deepcopy(value)
        error = refused(Desk().execute, [value])
        self.assertFalse({id(told) for told in lists_in(error.value)} & {id(told) for told in lists_in(value)})
        value[0].clear()
        self.assertTrue(same(error.value, before))

    def test_signs_more_and_less_as_the_judges_tell(self):
        draw = Random(1108)
        found = {True: 0, False: 0}
        lines = [*WORDS, *DEEDS, "game " + GAME_TEXT, "steady 3/5 2/5 x 2/5 3/5", "put 1 0 0 -1000", "game 1,-1 0,10",
                 "steady 1 x 1 0", "move 0 0 " + "9" * 29, "drop 1 -" + "9" * 29]
        for line in lines:
            for _ in range(60):
                at, sign = draw.randrange(len(line) + 1), draw.choice(" 0123456789,;/-+x\nagst")
                for text in (line[:at] + sign + line[at:], line[:at] + line[at + 1:], line[:at] + sign + line[at + 1:]):
                    right = is_command(text)
                    if right:
                        self.is_taken(text)
                    else:
                        self.assertIs(type(refused(at_work().execute, [text])), InvalidCommand)
                    found[right] += 1
        self.assertGreater(min(found.values()), 300)

    def is_taken(self, line):
        """A command is no InvalidCommand, whatever comes of it."""
        try:
            self.assertIs(type(at_work().execute(line)), str)
        except MixError as error:
            self.assertNotIsInstance(error, (InvalidCommand, NotReady))


class Sequence(unittest.TestCase):
    def test_without_a_live_no_command_is_ready(self):
        right = WORDS + list(DEEDS) + ["steady 3/5 2/5 x 2/5 3/5", "steady 1 x 1", "put 9 9 9 9999", "drop 7 7",
                                       "move -5 -5 " + "9" * 30, "put -" + "9" * 30 + " 0 0 0"]
        desk = Desk()
        for line in right:
            error = refused(desk.execute, [line])
            self.assertIs(type(error), NotReady)
            self.assertIsNone(error.value)
        self.assertIs(type(refused(desk.execute, ["game 1,1 ; "])), InvalidCommand)
        self.assertIs(type(refused(desk.execute, ["show"])), NotReady)
        self.assertEqual(desk.execute("game 1,1"), "ok")
        self.assertEqual(desk.execute("show"), "1,1")

    def test_the_errors_of_what_is_done(self):
        desk = at_work()
        most = "9" * 30
        for line, kind, value in (("put 2 9 9 9999", InvalidSide, 2), ("put -1 0 0 0", InvalidSide, -1),
                                  (f"put {most} 0 0 0", InvalidSide, 10 ** 30 - 1),
                                  ("put 0 2 9 9999", InvalidNumber, 2), ("put 1 0 -2 9999", InvalidNumber, -2),
                                  ("put 0 1 1 1001", InvalidNumber, 1001),
                                  (f"put 0 0 0 -{most}", InvalidNumber, 1 - 10 ** 30), ("move 2 9 9", InvalidSide, 2),
                                  ("move 1 2 0", InvalidNumber, 2), (f"move 0 {most} 0", InvalidNumber, 10 ** 30 - 1),
                                  ("drop 2 9", InvalidSide, 2), ("drop 0 2", InvalidNumber, 2),
                                  ("drop 1 -1", InvalidNumber, -1), ("back", Nothing, None),
                                  ("move 0 1 999", InvalidGame, (((3, 999), (0, 1001)), GAME[1])),
                                  ("move 0 0 " + most, InvalidGame, (((10 ** 30 + 2, 0), (10 ** 30 - 1, 2)), GAME[1])),
                                  ("steady 1 x 1 0", InvalidMix, ((1, 1),)), ("steady 1 0 x 1", InvalidMix, ((1, 1),)),
                                  ("steady 1/3 1/3 1/3 x 1", InvalidMix, parts(1, 1, 1))):
            error = refused(desk.execute, [line])
            self.assertIs(type(error), kind, line)
            self.assertTrue(same(error.value, value), error.value)
            self.assertEqual(desk.execute("show"), GAME_TEXT)
        self.assertIs(type(refused(desk.execute, ["back"])), Nothing)

    def test_a_command_that_raises_changes_nothing(self):
        desk = at_work()
        desk.execute("put 0 1 1 -1")
        for line in ("game 1,1 ;", "put 0 1 1 1001", "put 0 5 1 0", "move 0 0 9999", "drop 0 9", "steady 1 x 1",
                     "nothing", "", None):
            refused(desk.execute, [line])
            self.assertEqual(desk.execute("show"), "3,2 0,0 ; 0,0 -1,3")
        desk.execute("drop 1 0")
        refused(desk.execute, ["drop 1 0"])
        self.assertEqual([desk.execute("back"), desk.execute("back")], ["drop", "put"])
        self.assertEqual(desk.execute("show"), GAME_TEXT)

    def test_signs_of_games_with_ties(self):
        for game in (ALIKE, OBLONG, IDLE, ONE_ROW):
            desk = at_work(game)
            error = refused(desk.execute, ["signs"])
            self.assertIs(type(error), HasTies)
            self.assertTrue(same(error.value, game))
            self.assertEqual(desk.execute("tie"), "yes")

    def test_the_first_and_the_last_figure_taken(self):
        desk = at_work()
        for figures in ("9" * 30, "1" + "0" * 29):
            for minus in ("", "-"):
                self.assertIs(type(refused(desk.execute, [f"put 0 0 0 {minus}{figures}"])), InvalidNumber)
                self.assertIs(type(refused(desk.execute, [f"put 0 0 0 {minus}{figures}0"])), InvalidCommand)
                self.assertIs(type(refused(desk.execute, [f"drop {minus}{figures} 0"])), InvalidSide)
                self.assertIs(type(refused(desk.execute, [f"drop {minus}1{figures} 0"])), InvalidCommand)


class Lots(unittest.TestCase):
    def test_left_and_steady_go_together(self):
        # Nothing that is struck has a chance in a steady pair.
        for game in SMALL[:6]:
            rows, columns = [tuple(map(int, told.split(" "))) for told in at_work(game).execute("left").split(" ; ")]
            self.assertIn(rows, lots(size(game, 0)))
            for one, other in steady_corners(game):
                self.assertLessEqual(set(lot_of(one)), set(rows))
                self.assertLessEqual(set(lot_of(other)), set(columns))


if __name__ == "__main__":
    unittest.main()
