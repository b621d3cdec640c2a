"""What comes out of a game by little changes, and the signs of its islands."""

from math import comb

from steadymixes.blocks import blocks_among, indexes_of, islands_among
from steadymixes.checks import anew, check_changes, check_game
from steadymixes.corners import both_corners, equations, steady_among
from steadymixes.errors import Tied
from steadymixes.plays import lot_of, size, spread
from steadymixes.signs import LIFT, sign_with, tie_among
from steadymixes.solving import only_solution

# One over e. Whatever is compared in a changed game is a polynomial in it with integers below 10 ** 40
# as factors; so its sign is that of its highest power, as it is for all smaller e, too, and the factors
# can be read off its worth.
FAR = 10 ** 50


def changed_game(game, changes):
    """The changed game at the e that FAR tells, times FAR so that its numbers are integers."""
    tables = []
    for table, change in zip(game, changes):
        rows = []
        for row, added in zip(table, change):
            rows.append(tuple([FAR * number + more for number, more in zip(row, added)]))
        tables.append(tuple(rows))
    return tuple(tables)


def fallen(changed, side, lot, chosen):
    """The mix to which that with a lot, against which the chosen choices are best, goes as e falls to nought."""
    numbers, below = only_solution(equations(changed, side, lot, chosen), len(lot))
    power = 1
    while power * FAR <= 2 * below:
        power *= FAR
    # The nearest integers are the factors of the highest power, which alone counts in the end.
    factors = [(2 * number + power) // (2 * power) for number in numbers]
    return spread(size(changed, side), lot, factors)


def out_of(game, changes):
    """What comes_out tells of changes, None if they do not untie the game."""
    changed = changed_game(game, changes)
    both = both_corners(changed)
    if tie_among(both) is not None:
        return None
    found = []
    for one, other in steady_among(both):
        rows, columns = lot_of(one), lot_of(other)
        pair = fallen(changed, 0, rows, columns), fallen(changed, 1, columns, rows)
        found.append((rows, columns, sign_with(changed, rows, columns, LIFT * FAR), pair))
    return sorted(found)


def changes_for(game):
    """Changes that untie whatever game of this shape.

    A tie has so many best choices that the determinant of their numbers, with a row of ones, is nought.
    With changes that is a polynomial in e, its highest factor the like determinant of the changes: one of
    Pascal's triangle, the ones being its border. All of these are above nought, so the polynomial is nought
    for few e alone.
    """
    rows, columns = size(game, 0), size(game, 1)
    first = [tuple([comb(row + column + 1, row) for column in range(columns)]) for row in range(rows)]
    second = [tuple([comb(row + column + 1, column) for column in range(columns)]) for row in range(rows)]
    return tuple(first), tuple(second)


def signs_of_islands(game):
    """The list of the signs of all islands, by their sequence."""
    both = both_corners(game)
    told = blocks_among(both)
    found = islands_among(told)
    sums = [0] * len(found)
    for _, _, sign, (one, other) in out_of(game, changes_for(game)):
        index = indexes_of(game, both, told, one, other)[0]
        for at, island in enumerate(found):
            if index in island:
                sums[at] += sign
    return sums


def unties(game, changes):
    """Whether changes untie a game."""
    check_game(game)
    check_changes(game, changes)
    return tie_among(both_corners(changed_game(game, changes))) is None


def comes_out(game, changes):
    """The list of (rows, columns, sign, (one, other)) for all steady pairs of the changed games."""
    check_game(game)
    check_changes(game, changes)
    found = out_of(game, changes)
    if found is None:
        raise Tied(anew(changes))
    return found


def some_changes(game):
    """Changes that untie a game."""
    check_game(game)
    return changes_for(game)


def island_signs(game):
    """The list of the signs of all islands of a game, by their sequence."""
    check_game(game)
    return signs_of_islands(game)


def stays(game):
    """The ascending list of the indexes of the islands whose sign is not nought."""
    check_game(game)
    return [index for index, sign in enumerate(signs_of_islands(game)) if sign != 0]
