"""[36] Games and mixes read from their texts."""

import copy
import re
import unittest
from random import Random

from steadymixes.errors import Unreadable
from steadymixes.reading import read_game, read_mix
from steadymixes.texts import show_game, show_mix
from tests.calls import refused
from tests.judges import good_chances, lists_in, part, parts, same
from tests.samples import (ANYTHING, GAME, LARGE, LONG, NEAR_HALF, OBLONG, ONE_COLUMN, ONE_FIELD, ONE_ROW, SMALL, Odd,
                           drawn_games, drawn_mix, every_shape, long_mix)

WHOLE = "0|-?[1-9][0-9]*"
SIGNS = " 0123456789,;/-+x.\nA_"


def right_game(text):
    """The game of a text, None if there is none, by patterns of whole texts."""
    field = f"({WHOLE}),({WHOLE})"
    if not re.fullmatch(f"{field}( {field})*( ; {field}( {field})*)*", text):
        return None
    rows = [[tuple(map(int, field.split(","))) for field in row.split(" ")] for row in text.split(" ; ")]
    widths = {len(row) for row in rows}
    if len(rows) > 5 or len(widths) > 1 or max(widths) > 5:
        return None
    if any(abs(number) > 1000 for row in rows for field in row for number in field):
        return None
    return tuple(tuple(tuple(field[side] for field in row) for row in rows) for side in (0, 1))


def right_mix(text):
    """The mix of a text, None if there is none, by patterns of whole texts."""
    figures = "[1-9][0-9]{0,299}"
    if not re.fullmatch(f"(0|1|{figures}/{figures})( (0|1|{figures}/{figures}))*", text):
        return None
    told = [tuple(map(int, word.split("/"))) if "/" in word else (int(word), 1) for word in text.split(" ")]
    if any(below == 1 and "/" in word for (_, below), word in zip(told, text.split(" "))) or len(told) > 5:
        return None
    return tuple(told) if good_chances(tuple(told), len(told)) else None


def near(draw, text, many):
    """Texts with a sign more, less, or altered, or with two parts exchanged."""
    found = []
    for _ in range(many):
        at, sign = draw.randrange(len(text) + 1), draw.choice(SIGNS)
        found += [text[:at] + sign + text[at:], text[:at] + text[at + 1:], text[:at] + sign + text[at + 1:]]
        words = text.split(" ")
        draw.shuffle(words)
        found.append(" ".join(words))
    return found


class Games(unittest.TestCase):
    def test_what_is_shown_reads_back(self):
        for game in SMALL + LARGE + [ONE_FIELD] + every_shape(901, 1000) + every_shape(902, 9) + drawn_games(30, 903):
            self.assertTrue(same(read_game(show_game(game)), game))
            self.assertTrue(same(read_game(text=show_game(game)), game))

    def test_known_ones(self):
        self.assertEqual(read_game("3,2 0,0 ; 0,0 2,3"), GAME)
        self.assertEqual(read_game("0,0"), (((0,),), ((0,),)))
        self.assertEqual(read_game("-1000,1000"), ONE_FIELD)
        self.assertEqual(read_game("4,3 -7,9 0,-1000 4,9 1000,9"), ONE_ROW)
        self.assertEqual(read_game("3,4 ; 9,-7 ; -1000,0 ; 9,4 ; 9,1000"), ONE_COLUMN)

    def check_none(self, text):
        error = refused(read_game, [text])
        self.assertIs(type(error), Unreadable)
        self.assertEqual(error.value, text)

    def test_texts_that_are_near(self):
        for text in ("", " ", ";", " ; ", ",", "1", "1,", ",1", "1,1,", "1,1,1", "1 1", "1;1", "1/1", "1,1 ", " 1,1",
                     "1,1\n", "\n1,1", "1,1  2,2", "1,1 ;2,2", "1,1; 2,2", "1,1;2,2", "1,1 ; ", " ; 1,1", "1,1 ;  2,2",
                     "1,1  ; 2,2", "1,1 ; ; 2,2", "1,1 ; 2,2 ;", "1,1 ;", "1, 1", "1 ,1", "+1,1", "1,+1", "01,1",
                     "1,01", "00,0", "-0,0", "0,-0", "--1,1", "-,1", "1,-", "- 1,1", "1.0,1", "1e2,1", "1_0,1", "0x1,1",
                     "a,b", "1,1 , 2,2", "1,1\n;\n2,2", "1,1 ;\n2,2", "1,1 2,2 ; 3,3", "1,1 ; 2,2 3,3", "(1,1)",
                     "1,1 2,2 ; 3,3 4,4 ; 5,5", "1001,0", "0,1001", "-1001,0", "0,-1001", "9999,0", "10000,0",
                     "0,1" + "0" * 300, "1" * 1200 + ",0", "None", "True,False", "-1,-1-", "1-,1", "1,1-1"):
            self.check_none(text)

    def test_rows_and_columns_beyond_five(self):
        row = "1,1 1,1 1,1 1,1 1,1"
        self.assertEqual(len(read_game(row)[0][0]), 5)
        self.assertEqual(len(read_game(" ; ".join([row] * 5))[0]), 5)
        self.check_none(row + " 1,1")
        self.check_none(" ; ".join([row] * 6))
        self.check_none(" ; ".join(["1,1"] * 6))
        self.check_none(" ".join(["1,1"] * 900))
        self.check_none(" ; ".join(["1,1"] * 600))

    def test_signs_more_and_less_as_the_judges_tell(self):
        draw = Random(904)
        found = {True: 0, False: 0}
        for game in SMALL[:8] + LARGE[:2] + drawn_games(25, 905, bounds=(1, 9, 1000)):
            for text in near(draw, show_game(game), 20):
                right = right_game(text)
                if right is None:
                    self.check_none(text)
                else:
                    self.assertTrue(same(read_game(text), right))
                    self.assertEqual(show_game(right), text)
                found[right is None] += 1
        self.assertGreater(min(found.values()), 300)

    def test_objects_of_all_kinds(self):
        for value in ANYTHING + [GAME, OBLONG, ["3,2"], ("3,2",), b"3,2", {"3,2": 1}, Odd(), 3, ["3", ["2"]]]:
            error = refused(read_game, [value])
            self.assertIs(type(error), Unreadable)
            self.assertTrue(same(error.value, value))


class Mixes(unittest.TestCase):
    def test_what_is_shown_reads_back(self):
        draw = Random(906)
        for many in range(1, 6):
            for mix in [drawn_mix(draw, many, 99) for _ in range(40)] + [long_mix(draw, many) for _ in range(4)]:
                self.assertTrue(same(read_mix(show_mix(mix)), mix))
                self.assertTrue(same(read_mix(text=show_mix(mix)), mix))

    def test_known_ones(self):
        self.assertEqual(read_mix("1"), ((1, 1),))
        self.assertEqual(read_mix("0 1"), ((0, 1), (1, 1)))
        self.assertEqual(read_mix("3/5 2/5"), ((3, 5), (2, 5)))
        self.assertEqual(read_mix("0 0 0 0 1"), parts(0, 0, 0, 0, 1))
        self.assertEqual(read_mix("1/2 1/3 1/6"), ((1, 2), (1, 3), (1, 6)))

    def check_none(self, text):
        error = refused(read_mix, [text])
        self.assertIs(type(error), Unreadable)
        self.assertEqual(error.value, text)

    def test_texts_that_are_near(self):
        for text in ("", " ", "0", "2", "-1", "1 ", " 1", "1\n", "\n1", "01", "+1", "-0 1", "1 -0", "00 1", "1 00",
                     "1/1", "2/2", "1 0/1", "1 0/5", "0/1 1", "1/2", "1/2 1/2 ", " 1/2 1/2", "1/2  1/2", "1/2,1/2",
                     "1/2\n1/2", "2/4 1/2", "1/2 2/4", "1/2 1/3", "1/2 1/2 1/2", "1 1", "3/2 -1/2", "-1/2 3/2",
                     "-1/-2 1/2", "1/-2 3/2", "1/2 +1/2", "1/02 1/2", "01/2 1/2", "1/2 1/+2", "1/2/1 1/2", "1//2 1/2",
                     "/2 1/2", "1/ 1/2", "1 /2 1/2", "1/ 2 1/2", "0.5 0.5", "1/2 x 1/2", "1/0 0", "0/0 1", "1e0",
                     "half", "1/2 1/2/", "1_0/11 1/11", "1/3 1/3 1/3\n", "-", "/", "1/2-1/2", "None"):
            self.check_none(text)

    def test_six_choices_and_more(self):
        self.assertEqual(len(read_mix("1 0 0 0 0")), 5)
        self.check_none("1 0 0 0 0 0")
        self.check_none("1/6 1/6 1/6 1/6 1/6 1/6")
        self.check_none(" ".join(["1/900"] * 600))

    def test_figures_up_to_300(self):
        for below in (10 ** 300 - 1, 10 ** 299, LONG):
            mix = part(1, below), part(below - 1, below)
            self.assertTrue(same(read_mix(show_mix(mix)), mix))
        self.assertTrue(same(read_mix(show_mix(NEAR_HALF)), NEAR_HALF))
        for below in (10 ** 300, 10 ** 300 + 7, 10 ** 1500):
            self.check_none(show_mix((part(1, below), part(below - 1, below))))
        # The below alone, or one above, has a figure more than that.
        self.check_none(f"{10 ** 299}/{10 ** 300 - 1} {9 * 10 ** 299 - 1}/{10 ** 300 - 1} 1/1" + "0" * 300)
        self.check_none("1" + "0" * 300)

    def test_signs_more_and_less_as_the_judges_tell(self):
        draw = Random(907)
        found = {True: 0, False: 0}
        for many in (1, 2, 2, 3, 3, 4, 5, 5):
            for mix in [drawn_mix(draw, many, 30) for _ in range(6)] + [long_mix(draw, many)]:
                for text in near(draw, show_mix(mix), 12):
                    right = right_mix(text)
                    if right is None:
                        self.check_none(text)
                    else:
                        self.assertTrue(same(read_mix(text), right))
                        self.assertEqual(show_mix(right), text)
                    found[right is None] += 1
        self.assertGreater(min(found.values()), 200)

    def test_objects_of_all_kinds(self):
        for value in ANYTHING + [((1, 1),), parts(1, 1), ["1"], ("1",), b"1", {"1": 1}, Odd(), 1, True, None]:
            error = refused(read_mix, [value])
            self.assertIs(type(error), Unreadable)
            self.assertTrue(same(error.value, value))


class BuiltAnew(unittest.TestCase):
    def test_lists_in_what_is_refused(self):
        for function in (read_game, read_mix):
            for value in ([], [[]], ([1, [2]], "3,2"), ["3,2", ("0", [1])]):
                before = copy.deepcopy(value)
                error = refused(function, [value])
                self.assertFalse({id(told) for told in lists_in(error.value)} & {id(told) for told in lists_in(value)})
                for told in lists_in(value):
                    told.append("later")
                self.assertTrue(same(error.value, before))


if __name__ == "__main__":
    unittest.main()
