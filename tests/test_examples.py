"""The examples that stand in the document, with the answers that it gives, and those of README.md."""

import doctest
import pathlib
import unittest

README = pathlib.Path(__file__).resolve().parent.parent / "README.md"

EXAMPLES = {
    "games": r"""
>>> from steadymixes.games import best, gains, gets, height, moved, turned
>>> game = (((3, 0), (0, 2)), ((2, 0), (0, 3)))
>>> one, other = ((3, 5), (2, 5)), ((2, 5), (3, 5))
>>> [gets(game, one, other), best(game, 0, other), height(game, 0, one), gains(game, ((1, 1), (0, 1)), other), turned(game), moved(game, 0, 1, 4)[0]]
[((6, 5), (6, 5)), (0, 1), (6, 5), ((0, 1), (6, 5)), (((2, 0), (0, 3)), ((3, 0), (0, 2))), ((3, 4), (0, 6))]
""",
    "steady": r"""
>>> from steadymixes.steady import is_steady, lots_paper_holds, pure, steady_with
>>> game = (((3, 0), (0, 2)), ((2, 0), (0, 3)))
>>> [pure(game), steady_with(game, (0, 1), (0, 1)), steady_with(game, (0, 1), (0,)), is_steady(game, ((1, 2), (1, 2)), ((2, 5), (3, 5)))]
[[(0, 0), (1, 1)], (((3, 5), (2, 5)), ((2, 5), (3, 5))), None, False]
>>> [lots_paper_holds(game, (0,), (0, 1), ("bar", 0, (1, -1))), lots_paper_holds(game, (0,), (0, 1), ("bar", 0, (-1, 1)))]
[True, False]
""",
    "corners": r"""
>>> from steadymixes.corners import corners, flat_corners, labels, weights_for
>>> game = (((3, 0), (0, 2)), ((2, 0), (0, 3)))
>>> corners(game, 0)
[((0, 1), (1, 1)), ((3, 5), (2, 5)), ((1, 1), (0, 1))]
>>> [labels(game, 0, ((3, 5), (2, 5))), labels(game, 0, ((1, 5), (4, 5))), flat_corners(game, 0, ((1, 5), (4, 5)))]
[((1, 0), (1, 1)), ((1, 1),), [((0, 1), (1, 1)), ((3, 5), (2, 5))]]
>>> weights_for(game, 0, flat_corners(game, 0, ((1, 5), (4, 5))), ((1, 5), (4, 5)))
((2, 3), (1, 3))
""",
    "blocks": r"""
>>> from steadymixes.blocks import blocks, blocks_of, gets_of, islands
>>> alike = (((1, 1), (1, 0)), ((1, 1), (1, 0)))
>>> blocks(alike)
[((((0, 1), (1, 1)), ((1, 1), (0, 1))), (((1, 1), (0, 1)),)), ((((1, 1), (0, 1)),), (((0, 1), (1, 1)), ((1, 1), (0, 1))))]
>>> [islands(alike), blocks_of(alike, ((1, 2), (1, 2)), ((1, 1), (0, 1))), gets_of(alike, 0)]
[[[0, 1]], (0,), (((1, 1), (1, 1)), ((1, 1), (1, 1)))]
""",
    "signs": r"""
>>> from steadymixes.signs import sign, signed, tie, tie_holds
>>> game = (((3, 0), (0, 2)), ((2, 0), (0, 3)))
>>> [tie(game), [found for pair, found in signed(game)], tie_holds((((1, 1), (1, 0)), ((1, 1), (1, 0))), (0, ((1, 1), (0, 1))))]
[None, [1, -1, 1], True]
""",
    "paths": r"""
>>> from steadymixes.paths import led, pairings, path
>>> game = (((3, 0), (0, 2)), ((2, 0), (0, 3)))
>>> [led(game, (0, 0), None), led(game, (0, 1), None), led(game, (0, 0), (((3, 5), (2, 5)), ((2, 5), (3, 5)))), len(path(game, (0, 0), None))]
[(((1, 1), (0, 1)), ((1, 1), (0, 1))), (((0, 1), (1, 1)), ((0, 1), (1, 1))), (((0, 1), (1, 1)), ((0, 1), (1, 1))), 3]
""",
    "islands": r"""
>>> from steadymixes.islands import comes_out, island_signs, some_changes, stays, unties
>>> alike = (((1, 1), (1, 0)), ((1, 1), (1, 0)))
>>> up, down = (((0, 0), (1, 0)), ((0, 1), (0, 0))), (((1, 0), (0, 0)), ((1, 0), (0, 0)))
>>> [island_signs(alike), stays(alike), unties(alike, (((0, 0), (0, 0)), ((0, 0), (0, 0)))), unties(alike, some_changes(alike))]
[[1], [0], False, True]
>>> comes_out(alike, down)
[((0,), (0,), 1, (((1, 1), (0, 1)), ((1, 1), (0, 1))))]
>>> [found[:3] for found in comes_out(alike, up)]
[((0,), (1,), 1), ((0, 1), (0, 1), -1), ((1,), (0,), 1)]
""",
    "making": r"""
>>> from steadymixes.making import can_be_only, game_with_only, only_pair
>>> one, other = ((1, 3), (2, 3), (0, 1)), ((1, 2), (1, 2))
>>> [can_be_only(3, 2, one, other), can_be_only(3, 2, one, ((1, 1), (0, 1))), only_pair(game_with_only(3, 2, one, other)) == (one, other), only_pair((((3, 0), (0, 2)), ((2, 0), (0, 3))))]
[True, False, True, None]
""",
    "worths": r"""
>>> from steadymixes.worths import at_least, best_mixes, worth, worth_holds
>>> [worth(((3, 0), (0, 2))), at_least(((3, 0), (0, 2)), ((1, 2), (1, 2))), best_mixes(((3, 0), (0, 2)), 0), best_mixes(((1, 1), (1, 0)), 1)]
[(6, 5), (1, 1), [((2, 5), (3, 5))], [((0, 1), (1, 1)), ((1, 1), (0, 1))]]
>>> worth_holds(((3, 0), (0, 2)), ((6, 5), ((2, 5), (3, 5)), ((2, 5), (3, 5))))
True
""",
    "striking": r"""
>>> from steadymixes.striking import beaten_by, beats, best_against, left, strikes_hold
>>> game = (((4, 0), (0, 4), (1, 1)), ((1, 2), (3, 1), (0, 5)))
>>> [beats(game, 0, ((1, 2), (1, 2), (0, 1)), 2), beaten_by(game, 0, 0), best_against(game, 0, 2), left(game)]
[True, None, None, ((0, 1), (0, 1))]
>>> strikes_hold(game, [(0, 2, ((1, 2), (1, 2), (0, 1)))])
True
""",
    "prizes": r"""
>>> from steadymixes.prizes import pair_at, span, turns
>>> game = (((3, 0), (0, 2)), ((2, 0), (0, 3)))
>>> prizes = ((1, 0), (0, 0))
>>> [span(game, prizes, (0,), (0,)), span(game, prizes, (0, 1), (0, 1)), turns(game, prizes), pair_at(game, prizes, (1, 1), (0, 1), (0, 1))]
[((-3, 1), True, None, False), ((-3, 1), False, (2, 1), False), [(-3, 1), (2, 1)], (((3, 5), (2, 5)), ((1, 5), (4, 5)))]
""",
    "texts": r"""
>>> from steadymixes.texts import show_blocks, show_game, show_mix
>>> game = (((3, 0), (0, 2)), ((2, 0), (0, 3)))
>>> [show_game(game), show_mix(((3, 5), (2, 5))), show_blocks(game, [((((3, 5), (2, 5)),), (((2, 5), (3, 5)),))])]
['3,2 0,0 ; 0,0 2,3', '3/5 2/5', '3/5 2/5 x 2/5 3/5']
""",
    "desk": r"""
>>> from steadymixes.desk import Desk
>>> desk = Desk()
>>> [desk.execute(line) for line in ["game 3,2 0,0 ; 0,0 2,3", "pure", "signs", "left", "put 0 1 1 -1", "left", "back", "steady 3/5 2/5 x 2/5 3/5"]]
['ok', '0 0, 1 1', '+ - +', '0 1 ; 0 1', 'ok', '0 ; 0', 'put', 'yes']
""",
}


class Examples(unittest.TestCase):
    def check(self, name, text):
        """Runs all examples of a text, in a place of their own; tells how many there are."""
        test = doctest.DocTestParser().get_doctest(text, {}, name, name, 0)
        told = []
        runner = doctest.DocTestRunner(verbose=False)
        runner.run(test, out=told.append)
        self.assertEqual(runner.failures, 0, "".join(told))
        return runner.tries

    def test_those_of_the_document(self):
        for name, text in EXAMPLES.items():
            with self.subTest(name):
                self.assertGreaterEqual(self.check(name, text), 3)

    def test_those_of_the_readme(self):
        self.assertGreater(self.check("README.md", README.read_text(encoding="utf-8")), 10)


if __name__ == "__main__":
    unittest.main()
