"""Games, mixes and objects that many tests go over; all of it is the same in each run."""

from fractions import Fraction
from itertools import product
from random import Random

from tests.judges import part, parts, size, tied

GAME = (((3, 0), (0, 2)), ((2, 0), (0, 3)))
ALIKE = (((1, 1), (1, 0)), ((1, 1), (1, 0)))
PENNIES = (((1, -1), (-1, 1)), ((-1, 1), (1, -1)))
ROCK = (((0, -1, 1), (1, 0, -1), (-1, 1, 0)), ((0, 1, -1), (-1, 0, 1), (1, -1, 0)))
ONE_FIELD = (((-1000,),), ((1000,),))
ONE_ROW = (((4, -7, 0, 4, 1000),), ((3, 9, -1000, 9, 9),))
ONE_COLUMN = (((3,), (9,), (-1000,), (9,), (9,)), ((4,), (-7,), (0,), (4,), (1000,)))
THREE_ROWS = (((0, 0), (0, 0), (1, 0)), ((0, 1), (1, 0), (0, 0)))
OBLONG = (((5, 0, 2), (1, 4, 2)), ((0, 3, 1), (2, -1, 1)))


def filled(rows, columns, number, second=None):
    """The game with one number in all fields, or with one for each table."""
    tables = (number, number if second is None else second)
    return tuple(tuple((told,) * columns for _ in range(rows)) for told in tables)


def like_rows(row, second, rows):
    return ((row,) * rows, (second,) * rows)


FULL = (
    ((0, -1, 1, -1, 1), (1, 0, -1, 1, -1), (-1, 1, 0, -1, 1), (1, -1, 1, 0, -1), (-1, 1, -1, 1, 0)),
    ((0, 1, -1, 1, -1), (-1, 0, 1, -1, 1), (1, -1, 0, 1, -1), (-1, 1, -1, 0, 1), (1, -1, 1, -1, 0)),
)
STEPS = (
    tuple(tuple(1000 if row == column else -row - column for column in range(5)) for row in range(5)),
    tuple(tuple(-1000 if row == column else 7 * row - column for column in range(5)) for row in range(5)),
)

SMALL = [
    GAME, ALIKE, PENNIES, ROCK, OBLONG, ONE_FIELD,
    filled(3, 3, 0), filled(2, 4, 1000, -1000),
    like_rows((2, 0, 2), (0, 1, 1), 3),
    (((1, 1, 1), (0, 0, 0)), ((2, 2, 2), (5, 5, 5))),
    THREE_ROWS,
    (((1000, -1000), (-1000, 1000)), ((-1000, 999), (1000, -1000))),
    (((4, 0), (0, 4), (1, 1)), ((1, 2), (3, 1), (0, 5))),
    (((1, 0, 0, 0), (0, 1, 0, 0), (0, 0, 1, 0), (0, 0, 0, 1)),
     ((0, 1, 0, 0), (0, 0, 1, 0), (0, 0, 0, 1), (1, 0, 0, 0))),
]
LARGE = [
    ONE_ROW, ONE_COLUMN, FULL, STEPS, filled(5, 5, 0), filled(5, 5, -1000, 1000),
    like_rows((1, 0, 1, 0, 1), (0, 0, 1, 1, 1), 5),
    (tuple((row,) * 5 for row in (1, 1, 0, 1, 0)), tuple((row,) * 5 for row in (0, 1, 2, 3, 4))),
]


def drawn_game(draw, rows, columns, bound):
    return tuple(tuple(tuple(draw.randint(-bound, bound) for _ in range(columns)) for _ in range(rows))
                 for _ in range(2))


def drawn_games(many, seed, most=5, bounds=(0, 1, 1, 2, 9, 1000)):
    """Games of all shapes up to so many choices, many of them with ties."""
    draw = Random(seed)
    return [drawn_game(draw, draw.randint(1, most), draw.randint(1, most), draw.choice(bounds))
            for _ in range(many)]


def clear_games(many, seed, most=5, bounds=(3, 9, 1000)):
    """Those of so many drawn games that have no ties."""
    return [game for game in drawn_games(many, seed, most, bounds) if not tied(game)]


def every_shape(seed, bound):
    draw = Random(seed)
    return [drawn_game(draw, rows, columns, bound) for rows in range(1, 6) for columns in range(1, 6)]


def drawn_mix(draw, many, most=6):
    numbers = [0] * many
    while not any(numbers):
        numbers = [draw.choice((0, draw.randint(0, most))) for _ in range(many)]
    return parts(*numbers)


def drawn_pair(draw, game):
    return drawn_mix(draw, size(game, 0)), drawn_mix(draw, size(game, 1))


LONG = 10 ** 299 + 7
# Nearer to an even mix than any float tells, with a little less for the first choice.
NEAR_HALF = ((LONG // 2, LONG), (LONG - LONG // 2, LONG))


def long_mix(draw, many):
    """A mix whose fractions have nearly 300 figures above and below."""
    left = LONG
    numbers = []
    for _ in range(many - 1):
        numbers.append(draw.randint(left // 3, left // 2))
        left -= numbers[-1]
    return parts(*numbers, left)


# Of no ties, with three steady pairs, one of them mixed.
CLEAR = (((4, -1, -4), (1, 1, -2)), ((3, -5, -2), (-3, 5, 4)))
# Each two lots of as many like choices make a steady pair: there are 31, and no ties.
ORDERED = (
    tuple(tuple(20 + row if row == column else (3 * row + column) % 4 for column in range(5)) for row in range(5)),
    tuple(tuple(30 - column if row == column else (row + 2 * column) % 4 for column in range(5)) for row in range(5)),
)
# The same, but that the second side likes the first two rows the other way round.
CROSSED = (ORDERED[0], (ORDERED[1][1], ORDERED[1][0]) + ORDERED[1][2:])
# Without ties, but in one of its nine steady pairs each side takes its first choice with a chance of
# less than one in 10 ** 12: changes of thousandths of a millionth would undo that pair.
FINE = (
    ((171, -526, -12, 592, 209), (-54, -682, 366, 407, 294), (-551, -363, -442, 639, 168),
     (550, -683, -481, -640, 761), (-126, 683, 480, 582, -762)),
    ((-247, -152, 619, 575, -620), (-347, -455, 849, -850, -409), (161, 397, 190, -397, 276),
     (-27, -31, -763, 762, 696), (551, 530, 573, 92, -574)),
)
# With ties: against a mix of four choices all five of the other side are best.
FINE_TIED = (
    ((-1, 334, -185, -117, -117), (0, 334, -185, -117, -117), (-1, 363, 82, -276, -113),
     (-1, 121, -246, -366, 180), (-1, -363, 246, 365, -180)),
    ((-1, 0, -1, -1, -1), (32, 32, 201, -287, 287), (96, 96, -221, -172, 221), (-87, -87, -48, 87, -46),
     (215, 215, 227, 51, -228)),
)
# An island of four blocks with the sign 2, and one of the sign -1.
TWOFOLD = (((-1, 1, 1, 1), (1, 0, 0, 1), (-1, -1, -1, -1), (1, -1, 1, 1)),
           ((-1, 1, -1, 1), (1, 0, -1, -1), (1, -1, 1, 0), (1, 1, 0, 1)))
# Fourteen blocks in one island of the sign 0, and one alone.
MANY_BLOCKS = (((1, 0, 1, 0, 1), (1, 0, 1, 0, 1), (-1, 1, 0, 0, 1), (1, 0, -1, 1, 0), (0, 1, 0, 1, -1)),
               ((0, 1, 1, 0, 0), (-1, -1, 1, 0, 1), (0, 1, -1, 0, -1), (1, 0, -1, 0, -1), (0, 0, 0, 0, 1)))
# Both sides like one field, and do not mind where the other one picks the other choice.
IDLE = (((1, 0), (0, 0)), ((1, 0), (0, 0)))


class Odd:
    """An object of no kind that the package knows."""


ANYTHING = [
    None, True, False, 0, 1, -1, 2, 10 ** 400, "", "pair", "0", b"0", (), [], {}, [[]], ((),), ([],), {"a": [1]},
    {1, 2}, (1,), (0, 1), [0, 1], ((0, 1),), ((1, 1),), ("bar", 0, (0,)), Odd(), int, len, (None,), ("a", "b"),
]


def games_of_two(numbers):
    """All games of two rows and two columns with these numbers."""
    rows = list(product(numbers, repeat=2))
    tables = list(product(rows, repeat=2))
    return [(first, second) for first in tables for second in tables]


def means(draw, mixes, many):
    """Means of some of the mixes, by drawn weights."""
    told = []
    for _ in range(many):
        weights = drawn_mix(draw, len(mixes))
        told.append(tuple(part(sum(Fraction(*weight) * Fraction(*mix[at]) for mix, weight in zip(mixes, weights)))
                          for at in range(len(mixes[0]))))
    return told
