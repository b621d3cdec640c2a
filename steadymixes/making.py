"""Games made for a pair of mixes, and the pair of a game that has just one."""

from math import lcm

from steadymixes.checks import check_chances, check_game, check_many
from steadymixes.corners import both_corners, steady_among
from steadymixes.kinds import game_fits
from steadymixes.plays import lot_of
from steadymixes.ratios import scaled


def check_making(rows, columns, one, other):
    """The checks of a shape and of mixes of so many choices."""
    check_many(rows)
    check_many(columns)
    check_chances(one, rows)
    check_chances(other, columns)


def as_many(one, other):
    """Whether the lots of two mixes have as many choices."""
    return len(lot_of(one)) == len(lot_of(other))


def stakes(mix):
    """The least integers that, times the chances of a mix's lot, all come to the same; nought out of the lot."""
    numbers = scaled(mix)[0]
    common = 1
    for choice in lot_of(mix):
        common = lcm(common, numbers[choice])
    return [common // number if number > 0 else 0 for number in numbers]


def winnings(mine, targets, theirs):
    """What a side gets, a row for each of its own choices: each choice of its lot wins a stake at one target."""
    lot, prices = lot_of(mine), stakes(theirs)
    table = [[0 if own in lot else -1] * len(theirs) for own in range(len(mine))]
    for own, target in zip(lot, targets):
        table[own][target] = prices[target]
    return tuple([tuple(row) for row in table])


def chasing_game(one, other):
    """The game in which rows chase columns, and columns rows, around two lots of as many choices.

    Each row of the lot wins at the column of its own place, each column at the row of the next place, the last
    one at the first row. Choices out of the lots get less than any other, so nobody takes them. Of a steady pair
    each row that is taken has its column taken, and each column that is taken its row: so all around the whole
    lots are. Then a side's stakes, times the chances of the other one, all come to the same.
    """
    rows, columns = lot_of(one), lot_of(other)
    first = winnings(one, columns, other)
    second = winnings(other, rows[1:] + rows[:1], one)
    return first, tuple(zip(*second))


def can_be_only(rows, columns, one, other):
    """Whether some game with so many rows and columns has just this steady pair."""
    check_making(rows, columns, one, other)
    return as_many(one, other)


def game_with_only(rows, columns, one, other):
    """A game with so many rows and columns that has just this steady pair, None if there is none."""
    check_making(rows, columns, one, other)
    if not as_many(one, other):
        return None
    made = chasing_game(one, other)
    # Stakes are above the bound only of fractions with more below than callers keep to.
    return made if game_fits(made) else None


def game_with(rows, columns, one, other):
    """A game with so many rows and columns of which this is a steady pair."""
    check_making(rows, columns, one, other)
    # Where nothing is to be had, no other mix gets more.
    table = ((0,) * columns,) * rows
    return table, table


def only_pair(game):
    """The steady pair of a game that has just one, None of another game."""
    check_game(game)
    # Each steady pair is a mean of steady pairs of corners: one of these alone is the only one at all.
    found = steady_among(both_corners(game))
    return found[0] if len(found) == 1 else None
