"""[2] The general rules, over all functions of the package."""

import ast
import copy
import pathlib
import unittest
from random import Random

import steadymixes
from steadymixes.blocks import blocks, islands
from steadymixes.corners import corners, mean_of, weights_for
from steadymixes.desk import Desk
from steadymixes.errors import InvalidChanges
from steadymixes.games import is_game, is_lot, is_mix
from steadymixes.islands import island_signs, stays, unties
from steadymixes.live import Live
from steadymixes.signs import tie_holds
from steadymixes.steady import lots_paper_holds
from tests.calls import CALLS, COLUMN_MIX, fitting, refused
from tests.judges import lists_in, parts, same
from tests.samples import ALIKE, GAME, IDLE, LARGE, OBLONG, SMALL, TWOFOLD, drawn_mix, filled

WHETHER = "is_game is_mix is_lot is_steady lots_paper_holds is_corner tie_holds unties can_be_only is_table" \
    " worth_holds beats strikes_hold steady_at".split()


def kinds_in(value):
    """The kinds of all that stands in a value."""
    if type(value) in (list, tuple):
        return {type(value)}.union(*[kinds_in(part) for part in value])
    return {type(value)}


class Calls(unittest.TestCase):
    def test_by_position_and_by_name(self):
        for function, parameters in CALLS:
            arguments = fitting(parameters)
            by_name = {name: told for (name, _), told in zip(parameters, arguments)}
            with self.subTest(function.__name__):
                expected = function(*arguments)
                self.assertTrue(same(function(**by_name), expected))
                self.assertTrue(same(function(**dict(reversed(list(by_name.items())))), expected))
                first = {name: by_name[name] for name, _ in parameters[1:]}
                self.assertTrue(same(function(arguments[0], **first), expected))
                self.assertRaises(TypeError, function, *arguments, None)
                self.assertRaises(TypeError, function, *arguments[:-1])

    def test_arguments_are_not_modified(self):
        for function, parameters in CALLS:
            arguments = fitting(parameters)
            before = copy.deepcopy(arguments)
            function(*arguments)
            self.assertTrue(same(arguments, before), function.__name__)
        value = ["pair", [[1]], {"a": [2]}]
        for function, parameters in CALLS:
            if parameters[-1][1] == "any":
                function(*fitting(parameters)[:-1], value)
                self.assertTrue(same(value, ["pair", [[1]], {"a": [2]}]), function.__name__)

    def test_lists_of_mixes_are_not_modified(self):
        draw = Random(80)
        game = filled(5, 1, 0)
        mixes = [drawn_mix(draw, 5) for _ in range(12)]
        before = copy.deepcopy(mixes)
        weights = weights_for(game, 0, mixes, mixes[7])
        mean_of(game, 0, mixes, weights)
        self.assertTrue(same(mixes, before))

    def test_equal_arguments_give_an_equal_value(self):
        for function, parameters in CALLS:
            told = [function(*copy.deepcopy(fitting(parameters))) for _ in range(3)]
            self.assertTrue(same(told[0], told[1]) and same(told[1], told[2]), function.__name__)

    def test_what_is_told_does_not_hang_on_what_was_asked_before(self):
        games = SMALL + LARGE[:2]
        ahead = [[corners(game, 0), corners(game, 1), blocks(game), island_signs(game)] for game in games]
        behind = [[corners(game, 0), corners(game, 1), blocks(game), island_signs(game)] for game in reversed(games)]
        self.assertTrue(same(ahead, behind[::-1]))

    def test_true_is_not_taken_for_one_asked_before(self):
        true_game = (((True, False),), ((0, 1),))
        for _ in range(2):
            self.assertIs(is_game((((1, 0),), ((0, 1),))), True)
            self.assertIs(is_game(true_game), False)
            self.assertIs(is_mix(GAME, 0, ((1, 1), (0, 1))), True)
            self.assertIs(is_mix(GAME, 0, ((True, 1), (0, 1))), False)
            self.assertIs(is_lot(GAME, 0, (0, 1)), True)
            self.assertIs(is_lot(GAME, 0, (False, True)), False)
            self.assertIs(lots_paper_holds(GAME, (0,), (0, 1), ("bar", 0, (1, -1))), True)
            self.assertIs(lots_paper_holds(GAME, (0,), (0, 1), ("bar", False, (True, -1))), False)
            self.assertIs(tie_holds(ALIKE, (0, ((1, 1), (0, 1)))), True)
            self.assertIs(tie_holds(ALIKE, (False, ((1, 1), (0, 1)))), False)
            self.assertIs(tie_holds(ALIKE, (0, ((True, 1), (0, 1)))), False)
            self.assertIs(unties(ALIKE, (((0, 0), (1, 0)), ((0, 1), (0, 0)))), True)
            error = refused(unties, [ALIKE, (((0, 0), (True, 0)), ((0, 1), (0, 0)))])
            self.assertIs(type(error), InvalidChanges)

    def check_lists(self, make):
        """Each list that is told is a new one, and stands in one place; tells how many there are."""
        told, again = make(), make()
        before = copy.deepcopy(told)
        found = lists_in(told)
        self.assertEqual(len({id(told) for told in found + lists_in(again)}), 2 * len(found))
        for inner in found:
            inner.clear()
        self.assertTrue(same(make(), before))
        return len(found)

    def test_a_list_that_is_told_is_new(self):
        telling = "pure whole_paper corners flat_corners steady_corners blocks islands signed path pairings comes_out" \
            " island_signs stays best_mixes strikes steady_left spans turns".split()
        for function, parameters in CALLS:
            arguments = fitting(parameters)
            with self.subTest(function.__name__):
                many = self.check_lists(lambda: function(*arguments))
                self.assertEqual(many > 0, function.__name__ in telling)

    def test_lists_within_lists_are_new(self):
        self.assertEqual(self.check_lists(lambda: islands(TWOFOLD)), 3)
        self.assertEqual(self.check_lists(lambda: islands(GAME)), 4)
        self.assertEqual(self.check_lists(lambda: stays(IDLE)), 1)

    def test_the_kinds_of_what_is_told(self):
        for function, parameters in CALLS:
            told = function(*fitting(parameters))
            if function.__name__ in WHETHER:
                self.assertIs(type(told), bool, function.__name__)
            else:
                flags = {bool} if function.__name__ in ("span", "spans") else set()
                self.assertLessEqual(kinds_in(told), {list, tuple, int, str, type(None)} | flags, function.__name__)

    def test_what_is_passed_is_not_kept(self):
        mixes = [COLUMN_MIX, parts(1, 0, 0)]
        told = weights_for(OBLONG, 1, mixes, COLUMN_MIX)
        mixes.append(parts(0, 1, 0))
        self.assertEqual(len(told), 2)
        self.assertEqual(len(weights_for(OBLONG, 1, mixes, COLUMN_MIX)), 3)


class Places(unittest.TestCase):
    def test_each_function_is_defined_in_its_own_module(self):
        names = {
            "games": "is_game is_mix is_lot lot even_mix gets best height gains turned moved without",
            "steady": "is_steady some_steady steady_with pure lots_paper lots_paper_holds whole_paper",
            "corners": "labels is_corner corners mean_of weights_for flat_corners",
            "blocks": "steady_corners blocks blocks_of block_weights islands gets_of",
            "signs": "tie tie_holds sign signed",
            "paths": "path led pairings",
            "islands": "unties comes_out some_changes island_signs stays",
            "making": "can_be_only game_with_only game_with only_pair",
            "worths": "is_table against at_least at_most worth worth_paper worth_holds best_mixes",
            "striking": "beats beaten_by best_against left strikes strikes_hold steady_left",
            "prizes": "steady_at span spans turns pair_at",
            "texts": "show_fraction show_mix show_game show_blocks",
            "reading": "read_game read_mix",
        }
        told = {f"steadymixes.{module} {name}" for module, listed in names.items() for name in listed.split()}
        self.assertEqual({f"{function.__module__} {function.__name__}" for function, _ in CALLS}, told)

    def test_each_class_is_defined_in_its_own_module(self):
        for told, module in ((Live, "live"), (Desk, "desk")):
            self.assertEqual((told.__module__, told.__bases__), (f"steadymixes.{module}", (object,)))

    def test_no_clock_no_random_numbers_and_no_files(self):
        allowed = {"heapq", "math", "itertools", "collections", "__future__"}
        for path in sorted(pathlib.Path(steadymixes.__file__).parent.rglob("*.py")):
            for node in ast.walk(ast.parse(path.read_text(encoding="utf-8"))):
                if isinstance(node, ast.Import):
                    self.assertEqual((path.name, [told.name for told in node.names]), ("__main__.py", ["sys"]))
                if isinstance(node, ast.ImportFrom):
                    self.assertTrue(node.module in allowed or node.module.split(".")[0] == "steadymixes", path)
                if isinstance(node, ast.Name):
                    self.assertNotIn(node.id, ("open", "__import__", "eval", "exec", "input"))


if __name__ == "__main__":
    unittest.main()
