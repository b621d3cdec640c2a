"""All functions of the package, each with its parameters and arguments that fit."""

from steadymixes import (blocks, corners, games, islands, making, paths, prizes, reading, signs, steady, striking,
                         texts, worths)
from steadymixes.errors import MixError

from tests.samples import CLEAR, OBLONG

# What is told of a parameter: the kind of its argument. The sides of mixes, lots and choices are those of OBLONG,
# of two rows and three columns, with the side 1 where a side is passed. CLEAR is of the same shape, without ties.
# Where "here" is said, all that is handed in is right, and nothing is refused.
ROW_MIX, COLUMN_MIX = ((1, 3), (2, 3)), ((1, 2), (0, 1), (1, 2))
STEADY_PAIR = ((1, 2), (1, 2)), ((1, 2), (1, 2), (0, 1))
CLEAR_PAIR = ((7, 12), (5, 12)), ((2, 5), (0, 1), (3, 5))
FITTING = {
    "game": OBLONG,
    "side": 1,
    "any": (),
    "row mix": ROW_MIX,
    "column mix": COLUMN_MIX,
    "row lot": (0, 1),
    "column lot": (0, 2),
    "row choice": 1,
    "column choice": 2,
    "number": 7,
    "column mixes": [((1, 1), (0, 1), (0, 1)), ((0, 1), (0, 1), (1, 1))],
    "weights": ((1, 2), (1, 2)),
    "steady one": STEADY_PAIR[0],
    "steady other": STEADY_PAIR[1],
    "index": 0,
    "clear game": CLEAR,
    "clear one": CLEAR_PAIR[0],
    "clear other": CLEAR_PAIR[1],
    "label": (1, 2),
    "start": CLEAR_PAIR,
    "changes": (((1, -7, 3), (0, 2, 1)), ((1000, 5, 0), (3, -1000, 8))),
    "rows": 2,
    "columns": 3,
    "table": OBLONG[0],
    "prizes": ((1000, -1), (0, 3, -1000)),
    "t": (-5, 3),
    "fraction": (-7, 12),
    "column mix here": COLUMN_MIX,
    "game here": OBLONG,
    "blocks": [((((1, 2), (1, 2)), ((1, 1), (0, 1))), (((1, 1), (0, 1), (0, 1)),))],
    "game text": "5,0 0,3 2,1 ; 1,2 4,-1 2,1",
    "mix text": "1/3 0 2/3",
}
# What is refused of some kinds is what is refused of others.
LIKE = {"steady one": "row mix", "clear one": "row mix", "steady other": "column mix", "clear other": "column mix",
        "clear game": "game"}

MADE_OF = [("rows", "rows"), ("columns", "columns"), ("one", "row mix"), ("other", "column mix")]

CALLS = [
    (games.is_game, [("value", "any")]),
    (games.is_mix, [("game", "game"), ("side", "side"), ("value", "any")]),
    (games.is_lot, [("game", "game"), ("side", "side"), ("value", "any")]),
    (games.lot, [("game", "game"), ("side", "side"), ("mix", "column mix")]),
    (games.even_mix, [("game", "game"), ("side", "side"), ("lot", "column lot")]),
    (games.gets, [("game", "game"), ("one", "row mix"), ("other", "column mix")]),
    (games.best, [("game", "game"), ("side", "side"), ("mix", "row mix")]),
    (games.height, [("game", "game"), ("side", "side"), ("mix", "column mix")]),
    (games.gains, [("game", "game"), ("one", "row mix"), ("other", "column mix")]),
    (games.turned, [("game", "game")]),
    (games.moved, [("game", "game"), ("side", "side"), ("choice", "row choice"), ("number", "number")]),
    (games.without, [("game", "game"), ("side", "side"), ("choice", "column choice")]),
    (steady.is_steady, [("game", "game"), ("one", "row mix"), ("other", "column mix")]),
    (steady.some_steady, [("game", "game")]),
    (steady.steady_with, [("game", "game"), ("rows", "row lot"), ("columns", "column lot")]),
    (steady.pure, [("game", "game")]),
    (steady.lots_paper, [("game", "game"), ("rows", "row lot"), ("columns", "column lot")]),
    (steady.lots_paper_holds, [("game", "game"), ("rows", "row lot"), ("columns", "column lot"), ("value", "any")]),
    (steady.whole_paper, [("game", "game")]),
    (corners.labels, [("game", "game"), ("side", "side"), ("mix", "column mix")]),
    (corners.is_corner, [("game", "game"), ("side", "side"), ("mix", "column mix")]),
    (corners.corners, [("game", "game"), ("side", "side")]),
    (corners.mean_of, [("game", "game"), ("side", "side"), ("mixes", "column mixes"), ("weights", "weights")]),
    (corners.weights_for, [("game", "game"), ("side", "side"), ("mixes", "column mixes"), ("mix", "column mix")]),
    (corners.flat_corners, [("game", "game"), ("side", "side"), ("mix", "column mix")]),
    (blocks.steady_corners, [("game", "game")]),
    (blocks.blocks, [("game", "game")]),
    (blocks.blocks_of, [("game", "game"), ("one", "steady one"), ("other", "steady other")]),
    (blocks.block_weights, [("game", "game"), ("index", "index"), ("one", "row mix"), ("other", "column mix")]),
    (blocks.islands, [("game", "game")]),
    (blocks.gets_of, [("game", "game"), ("index", "index")]),
    (signs.tie, [("game", "game")]),
    (signs.tie_holds, [("game", "game"), ("value", "any")]),
    (signs.sign, [("game", "clear game"), ("one", "clear one"), ("other", "clear other")]),
    (signs.signed, [("game", "clear game")]),
    (paths.path, [("game", "clear game"), ("label", "label"), ("start", "start")]),
    (paths.led, [("game", "clear game"), ("label", "label"), ("start", "start")]),
    (paths.pairings, [("game", "clear game"), ("label", "label")]),
    (islands.unties, [("game", "game"), ("changes", "changes")]),
    (islands.comes_out, [("game", "game"), ("changes", "changes")]),
    (islands.some_changes, [("game", "game")]),
    (islands.island_signs, [("game", "game")]),
    (islands.stays, [("game", "game")]),
    (making.can_be_only, MADE_OF),
    (making.game_with_only, MADE_OF),
    (making.game_with, MADE_OF),
    (making.only_pair, [("game", "game")]),
    (worths.is_table, [("value", "any")]),
    (worths.against, [("table", "table")]),
    (worths.at_least, [("table", "table"), ("one", "row mix")]),
    (worths.at_most, [("table", "table"), ("other", "column mix")]),
    (worths.worth, [("table", "table")]),
    (worths.worth_paper, [("table", "table")]),
    (worths.worth_holds, [("table", "table"), ("value", "any")]),
    (worths.best_mixes, [("table", "table"), ("side", "side")]),
    (striking.beats, [("game", "game"), ("side", "side"), ("mix", "column mix"), ("choice", "column choice")]),
    (striking.beaten_by, [("game", "game"), ("side", "side"), ("choice", "column choice")]),
    (striking.best_against, [("game", "game"), ("side", "side"), ("choice", "column choice")]),
    (striking.left, [("game", "game")]),
    (striking.strikes, [("game", "game")]),
    (striking.strikes_hold, [("game", "game"), ("value", "any")]),
    (striking.steady_left, [("game", "game")]),
    (prizes.steady_at, [("game", "game"), ("prizes", "prizes"), ("t", "t"), ("one", "row mix"),
                        ("other", "column mix")]),
    (prizes.span, [("game", "game"), ("prizes", "prizes"), ("rows", "row lot"), ("columns", "column lot")]),
    (prizes.spans, [("game", "game"), ("prizes", "prizes")]),
    (prizes.turns, [("game", "game"), ("prizes", "prizes")]),
    (prizes.pair_at, [("game", "game"), ("prizes", "prizes"), ("t", "t"), ("rows", "row lot"),
                      ("columns", "column lot")]),
    (texts.show_fraction, [("fraction", "fraction")]),
    (texts.show_mix, [("mix", "column mix here")]),
    (texts.show_game, [("game", "game here")]),
    (texts.show_blocks, [("game", "game here"), ("blocks", "blocks")]),
    (reading.read_game, [("text", "game text")]),
    (reading.read_mix, [("text", "mix text")]),
]


def fitting(parameters):
    """Arguments that fit, lists among them new."""
    return [list(FITTING[kind]) if type(FITTING[kind]) is list else FITTING[kind] for _, kind in parameters]


def refused(function, arguments):
    """The error that a call raises."""
    try:
        told = function(*arguments)
    except MixError as error:
        return error
    raise AssertionError(f"{function.__name__}{tuple(arguments)!r} returned {told!r}")
