"""All functions of the package, each with its parameters and arguments that fit."""

from steadymixes import corners, games, steady

from tests.samples import OBLONG

# What is told of a parameter: the kind of its argument. The sides of mixes, lots and choices are those of OBLONG,
# of two rows and three columns, with the side 1 where a side is passed.
ROW_MIX, COLUMN_MIX = ((1, 3), (2, 3)), ((1, 2), (0, 1), (1, 2))
FITTING = {
    "game": OBLONG,
    "side": 1,
    "any": (),
    "row mix": ROW_MIX,
    "column mix": COLUMN_MIX,
    "row lot": (0, 1),
    "column lot": (0, 2),
    "row choice": 1,
    "column choice": 2,
    "number": 7,
    "column mixes": [((1, 1), (0, 1), (0, 1)), ((0, 1), (0, 1), (1, 1))],
    "weights": ((1, 2), (1, 2)),
}

CALLS = [
    (games.is_game, [("value", "any")]),
    (games.is_mix, [("game", "game"), ("side", "side"), ("value", "any")]),
    (games.is_lot, [("game", "game"), ("side", "side"), ("value", "any")]),
    (games.lot, [("game", "game"), ("side", "side"), ("mix", "column mix")]),
    (games.even_mix, [("game", "game"), ("side", "side"), ("lot", "column lot")]),
    (games.gets, [("game", "game"), ("one", "row mix"), ("other", "column mix")]),
    (games.best, [("game", "game"), ("side", "side"), ("mix", "row mix")]),
    (games.height, [("game", "game"), ("side", "side"), ("mix", "column mix")]),
    (games.gains, [("game", "game"), ("one", "row mix"), ("other", "column mix")]),
    (games.turned, [("game", "game")]),
    (games.moved, [("game", "game"), ("side", "side"), ("choice", "row choice"), ("number", "number")]),
    (games.without, [("game", "game"), ("side", "side"), ("choice", "column choice")]),
    (steady.is_steady, [("game", "game"), ("one", "row mix"), ("other", "column mix")]),
    (steady.some_steady, [("game", "game")]),
    (steady.steady_with, [("game", "game"), ("rows", "row lot"), ("columns", "column lot")]),
    (steady.pure, [("game", "game")]),
    (steady.lots_paper, [("game", "game"), ("rows", "row lot"), ("columns", "column lot")]),
    (steady.lots_paper_holds, [("game", "game"), ("rows", "row lot"), ("columns", "column lot"), ("value", "any")]),
    (steady.whole_paper, [("game", "game")]),
    (corners.labels, [("game", "game"), ("side", "side"), ("mix", "column mix")]),
    (corners.is_corner, [("game", "game"), ("side", "side"), ("mix", "column mix")]),
    (corners.corners, [("game", "game"), ("side", "side")]),
    (corners.mean_of, [("game", "game"), ("side", "side"), ("mixes", "column mixes"), ("weights", "weights")]),
    (corners.weights_for, [("game", "game"), ("side", "side"), ("mixes", "column mixes"), ("mix", "column mix")]),
    (corners.flat_corners, [("game", "game"), ("side", "side"), ("mix", "column mix")]),
]


def fitting(parameters):
    """Arguments that fit, lists among them new."""
    return [list(FITTING[kind]) if type(FITTING[kind]) is list else FITTING[kind] for _, kind in parameters]
