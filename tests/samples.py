"""Games, mixes and objects that many tests go over; all of it is the same in each run."""

from random import Random

from tests.judges import parts, size

GAME = (((3, 0), (0, 2)), ((2, 0), (0, 3)))
ALIKE = (((1, 1), (1, 0)), ((1, 1), (1, 0)))
PENNIES = (((1, -1), (-1, 1)), ((-1, 1), (1, -1)))
ROCK = (((0, -1, 1), (1, 0, -1), (-1, 1, 0)), ((0, 1, -1), (-1, 0, 1), (1, -1, 0)))
ONE_FIELD = (((-1000,),), ((1000,),))
ONE_ROW = (((4, -7, 0, 4, 1000),), ((3, 9, -1000, 9, 9),))
ONE_COLUMN = (((3,), (9,), (-1000,), (9,), (9,)), ((4,), (-7,), (0,), (4,), (1000,)))
THREE_ROWS = (((0, 0), (0, 0), (1, 0)), ((0, 1), (1, 0), (0, 0)))
OBLONG = (((5, 0, 2), (1, 4, 2)), ((0, 3, 1), (2, -1, 1)))


def filled(rows, columns, number, second=None):
    """The game with one number in all fields, or with one for each table."""
    tables = (number, number if second is None else second)
    return tuple(tuple((told,) * columns for _ in range(rows)) for told in tables)


def like_rows(row, second, rows):
    return ((row,) * rows, (second,) * rows)


FULL = (
    ((0, -1, 1, -1, 1), (1, 0, -1, 1, -1), (-1, 1, 0, -1, 1), (1, -1, 1, 0, -1), (-1, 1, -1, 1, 0)),
    ((0, 1, -1, 1, -1), (-1, 0, 1, -1, 1), (1, -1, 0, 1, -1), (-1, 1, -1, 0, 1), (1, -1, 1, -1, 0)),
)
STEPS = (
    tuple(tuple(1000 if row == column else -row - column for column in range(5)) for row in range(5)),
    tuple(tuple(-1000 if row == column else 7 * row - column for column in range(5)) for row in range(5)),
)

SMALL = [
    GAME, ALIKE, PENNIES, ROCK, OBLONG, ONE_FIELD,
    filled(3, 3, 0), filled(2, 4, 1000, -1000),
    like_rows((2, 0, 2), (0, 1, 1), 3),
    (((1, 1, 1), (0, 0, 0)), ((2, 2, 2), (5, 5, 5))),
    THREE_ROWS,
    (((1000, -1000), (-1000, 1000)), ((-1000, 999), (1000, -1000))),
    (((4, 0), (0, 4), (1, 1)), ((1, 2), (3, 1), (0, 5))),
    (((1, 0, 0, 0), (0, 1, 0, 0), (0, 0, 1, 0), (0, 0, 0, 1)),
     ((0, 1, 0, 0), (0, 0, 1, 0), (0, 0, 0, 1), (1, 0, 0, 0))),
]
LARGE = [
    ONE_ROW, ONE_COLUMN, FULL, STEPS, filled(5, 5, 0), filled(5, 5, -1000, 1000),
    like_rows((1, 0, 1, 0, 1), (0, 0, 1, 1, 1), 5),
    (tuple((row,) * 5 for row in (1, 1, 0, 1, 0)), tuple((row,) * 5 for row in (0, 1, 2, 3, 4))),
]


def drawn_game(draw, rows, columns, bound):
    return tuple(tuple(tuple(draw.randint(-bound, bound) for _ in range(columns)) for _ in range(rows))
                 for _ in range(2))


def drawn_games(many, seed, most=5, bounds=(0, 1, 1, 2, 9, 1000)):
    """Games of all shapes up to so many choices, many of them with ties."""
    draw = Random(seed)
    return [drawn_game(draw, draw.randint(1, most), draw.randint(1, most), draw.choice(bounds))
            for _ in range(many)]


def every_shape(seed, bound):
    draw = Random(seed)
    return [drawn_game(draw, rows, columns, bound) for rows in range(1, 6) for columns in range(1, 6)]


def drawn_mix(draw, many, most=6):
    numbers = [0] * many
    while not any(numbers):
        numbers = [draw.choice((0, draw.randint(0, most))) for _ in range(many)]
    return parts(*numbers)


def drawn_pair(draw, game):
    return drawn_mix(draw, size(game, 0)), drawn_mix(draw, size(game, 1))


LONG = 10 ** 299 + 7
# Nearer to an even mix than any float tells, with a little less for the first choice.
NEAR_HALF = ((LONG // 2, LONG), (LONG - LONG // 2, LONG))


def long_mix(draw, many):
    """A mix whose fractions have nearly 300 figures above and below."""
    left = LONG
    numbers = []
    for _ in range(many - 1):
        numbers.append(draw.randint(left // 3, left // 2))
        left -= numbers[-1]
    return parts(*numbers, left)


class Odd:
    """An object of no kind that the package knows."""


ANYTHING = [
    None, True, False, 0, 1, -1, 2, 10 ** 400, "", "pair", "0", b"0", (), [], {}, [[]], ((),), ([],), {"a": [1]},
    {1, 2}, (1,), (0, 1), [0, 1], ((0, 1),), ((1, 1),), ("bar", 0, (0,)), Odd(), int, len, (None,), ("a", "b"),
]
