"""[1] and the guarantees: what the whole program tells, of one game after the other."""

import unittest
from random import Random

from steadymixes.blocks import block_weights, blocks, blocks_of, islands
from steadymixes.corners import mean_of
from steadymixes.desk import Desk
from steadymixes.games import gains
from steadymixes.islands import comes_out, island_signs, some_changes, unties
from steadymixes.live import Live
from steadymixes.making import game_with_only, only_pair
from steadymixes.paths import led, pairings
from steadymixes.prizes import spans, steady_at
from steadymixes.signs import signed, tie
from steadymixes.steady import is_steady, lots_paper, lots_paper_holds, some_steady, whole_paper
from steadymixes.striking import left, steady_left
from steadymixes.texts import show_game
from steadymixes.worths import against, worth_holds, worth_paper
from tests.judges import (in_block, labels_of, lot_of, lots, paper_is_right, same, size, steady, tied)
from tests.samples import (CLEAR, CROSSED, FINE, FINE_TIED, FULL, GAME, LARGE, MANY_BLOCKS, ORDERED, SMALL, STEPS,
                           TWOFOLD, clear_games, drawn_games, drawn_mix, drawn_pair, every_shape, means)

EVERY = SMALL + LARGE + [CLEAR, TWOFOLD] + drawn_games(60, 1201) + every_shape(1202, 2)
UNTIED = [game for game in EVERY if not tied(game)] + [ORDERED, CROSSED, FINE] + clear_games(30, 207)
TIED = [game for game in EVERY if tied(game)] + [FINE_TIED, MANY_BLOCKS]


class EveryGame(unittest.TestCase):
    def test_there_is_a_steady_pair(self):
        for game in EVERY:
            pair = some_steady(game)
            self.assertTrue(steady(game, *pair))
            self.assertIs(is_steady(game, *pair), True)
            self.assertEqual(gains(game, *pair), ((0, 1), (0, 1)))

    def test_the_steady_pairs_are_the_pairs_of_its_blocks(self):
        draw = Random(1203)
        found = {True: 0, False: 0}
        for game in EVERY:
            told = blocks(game)
            self.assertGreater(len(told), 0)
            drawn = [(draw.choice(ones), draw.choice(others)) for ones, others in told]
            drawn += [(means(draw, ones, 1)[0], means(draw, others, 1)[0]) for ones, others in told[:4]]
            for pair in drawn + [drawn_pair(draw, game) for _ in range(4)]:
                right = steady(game, *pair)
                self.assertIs(is_steady(game, *pair), right)
                having = [at for at, block in enumerate(told) if in_block(game, block, pair)]
                self.assertIs(bool(having), right)
                if right:
                    self.assertEqual(blocks_of(game, *pair), tuple(having))
                    first, second = block_weights(game, having[0], *pair)
                    ones, others = told[having[0]]
                    self.assertTrue(same(mean_of(game, 0, list(ones), first), pair[0]))
                    self.assertTrue(same(mean_of(game, 1, list(others), second), pair[1]))
                found[right] += 1
        self.assertGreater(min(found.values()), 150)

    def test_each_two_lots_have_a_pair_or_a_bar(self):
        draw = Random(1204)
        for game in EVERY:
            both = [(rows, columns) for rows in lots(size(game, 0)) for columns in lots(size(game, 1))]
            for rows, columns in draw.sample(both, min(len(both), 12)):
                paper = lots_paper(game, rows, columns)
                self.assertTrue(paper_is_right(game, rows, columns, paper))
                self.assertIs(lots_paper_holds(game, rows, columns, paper), True)
        for game in (GAME, CLEAR, TWOFOLD):
            pairs = [paper[1:] for paper in whole_paper(game) if paper[0] == "pair"]
            self.assertTrue(all(steady(game, *pair) for pair in pairs))

    def test_what_is_struck_out_is_in_no_steady_pair(self):
        for game in EVERY:
            self.assertEqual(steady_left(game), blocks(game))
            lots_left = left(game)
            for block in blocks(game):
                for side in (0, 1):
                    self.assertTrue(all(set(lot_of(mix)) <= set(lots_left[side]) for mix in block[side]))

    def test_only_pairs(self):
        for game in EVERY:
            pair, told = only_pair(game), blocks(game)
            alone = len(told) == 1 and [len(mixes) for mixes in told[0]] == [1, 1]
            self.assertEqual(pair, (told[0][0][0], told[0][1][0]) if alone else None)
            if alone and all(below <= 12 for mix in pair for _, below in mix):
                made = game_with_only(size(game, 0), size(game, 1), *pair)
                self.assertEqual(blocks(made), told)

    def test_tables_are_worth_what_steady_pairs_get(self):
        for game in EVERY:
            table = game[0]
            one, other = some_steady(against(table))
            self.assertIs(worth_holds(table, (worth_paper(table)[0], one, other)), True)

    def test_prizes_of_nought_leave_it_as_it_is(self):
        draw = Random(1205)
        for game in EVERY[::4]:
            prizes = tuple(tuple(draw.randint(-9, 9) for _ in range(size(game, side))) for side in (0, 1))
            at_nought = [(rows, columns) for rows, columns, (least, its, greatest, own) in spans(game, prizes)
                         if (least is None or least[0] < 0 or least[0] == 0 and its)
                         and (greatest is None or greatest[0] > 0 or greatest[0] == 0 and own)]
            for rows in lots(size(game, 0))[::3]:
                for columns in lots(size(game, 1))[::3]:
                    word = lots_paper(game, rows, columns)[0]
                    self.assertIs(word == "pair", (rows, columns) in at_nought)
            one, other = drawn_mix(draw, size(game, 0)), drawn_mix(draw, size(game, 1))
            self.assertIs(steady_at(game, prizes, (0, 1), one, other), is_steady(game, one, other))


class WithoutTies(unittest.TestCase):
    def test_blocks_are_single_pairs_whose_signs_come_to_one(self):
        for game in UNTIED:
            self.assertIsNone(tie(game))
            told, signs = blocks(game), signed(game)
            self.assertTrue(all(len(ones) == len(others) == 1 for ones, others in told))
            self.assertEqual(len(told) % 2, 1)
            self.assertEqual([(ones[0], others[0]) for ones, others in told], [pair for pair, _ in signs])
            self.assertEqual(sum(sign for _, sign in signs), 1)
            self.assertEqual(islands(game), [[at] for at in range(len(told))])

    def test_labels_lead_there_and_back(self):
        for game in UNTIED:
            signs = dict(signed(game))
            signs[None] = -1
            labels = [(side, choice) for side in (0, 1) for choice in range(size(game, side))]
            for label in labels[::2]:
                told = pairings(game, label)
                self.assertEqual(sorted(map(repr, [end for pair in told for end in pair])), sorted(map(repr, signs)))
                for one, other in told:
                    self.assertEqual((led(game, label, one), led(game, label, other)), (other, one))
                    self.assertEqual(signs[one], -signs[other])

    def test_steady_pairs_have_all_labels(self):
        for game in UNTIED:
            for one, other in dict(signed(game)):
                told = labels_of(game, 0, one) + labels_of(game, 1, other)
                self.assertEqual(len(told), size(game, 0) + size(game, 1))
                self.assertEqual(len(set(told)), len(told))


class WithTies(unittest.TestCase):
    def test_whatever_change_unties_a_game_its_islands_keep_their_signs(self):
        draw = Random(1206)
        seen = 0
        for game in TIED:
            self.assertIsNotNone(tie(game))
            signs, found = island_signs(game), islands(game)
            self.assertEqual(sum(signs), 1)
            drawn = tuple(tuple(tuple(draw.randint(-1000, 1000) for _ in row) for row in table) for table in game)
            for changes in (some_changes(game), drawn):
                if not unties(game, changes):
                    continue
                sums = [0] * len(found)
                for _, _, sign, pair in comes_out(game, changes):
                    self.assertTrue(steady(game, *pair))
                    sums[[at for at, island in enumerate(found) if blocks_of(game, *pair)[0] in island][0]] += sign
                self.assertEqual(sums, signs)
                seen += 1
        self.assertGreater(seen, 60)


class OneAfterTheOther(unittest.TestCase):
    def test_a_desk_a_live_and_the_functions_tell_the_same(self):
        for game in EVERY[::3] + [FULL, STEPS]:
            desk, live = Desk(), Live(game)
            desk.execute("game " + show_game(game))
            self.assertEqual(desk.execute("show"), show_game(live.game))
            self.assertEqual(desk.execute("tie"), "no" if tie(game) is None else "yes")
            self.assertEqual(desk.execute("left"), " ; ".join(" ".join(map(str, lot)) for lot in left(game)))
            self.assertEqual(desk.execute("blocks").count(" x "), len(blocks(game)))
            self.assertTrue(same(live.blocks(), blocks(game)))


if __name__ == "__main__":
    unittest.main()
