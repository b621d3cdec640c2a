"""What a table is worth against an enemy, who loses what the first side gets."""

from steadymixes.checks import check_mix, check_side, check_table
from steadymixes.corners import corners_of
from steadymixes.kinds import is_fraction, is_tuple_of, mix_fits, table_fits
from steadymixes.plays import height_over, taken
from steadymixes.ratios import extremes, ratio


def against_of(table):
    """The game of a table and the one with all numbers taken from nought."""
    return table, tuple([tuple([-number for number in row]) for row in table])


def least_of(table, one):
    """The least that a mix of the side 0 gets against any column."""
    numbers, below = taken((table, table), 1, one)
    return ratio(min(numbers), below)


def most_of(table, other):
    """The most that any row gets against a mix of the side 1."""
    numbers, below = taken((table, table), 0, other)
    return ratio(max(numbers), below)


def lowest(table, side):
    """The ascending list of the corners of a side that are lowest, and their height.

    The mixes that let the enemy get least are means of such corners, and of nothing else.
    """
    game = against_of(table)
    told = [(corner, height_over(game, side, corner)) for corner in corners_of(game, side)]
    least = extremes([height for _, height in told])[0]
    return [corner for corner, height in told if height == least], least


def is_table(value):
    """Whether any object is a table."""
    return table_fits(value)


def against(table):
    """The game of a table and the one with all numbers taken from nought."""
    check_table(table)
    return against_of(table)


def at_least(table, one):
    """The least that a mix of the side 0 gets against any choice of the other one."""
    check_table(table)
    check_mix((table, table), 0, one)
    return least_of(table, one)


def at_most(table, other):
    """The most that any choice of the side 0 gets against a mix of the side 1."""
    check_table(table)
    check_mix((table, table), 1, other)
    return most_of(table, other)


def worth(table):
    """What some mix of the side 0 gets at least, and some mix of the side 1 lets get at most."""
    check_table(table)
    return lowest(table, 1)[1]


def worth_paper(table):
    """The tuple (worth, one, other) of a table's worth and two mixes that show it."""
    check_table(table)
    ones = lowest(table, 0)[0]
    others, height = lowest(table, 1)
    return height, ones[0], others[0]


def worth_holds(table, value):
    """Whether any object is a tuple of a table's worth and two mixes that show it."""
    check_table(table)
    if not is_tuple_of(value, 3):
        return False
    told, one, other = value
    game = (table, table)
    if not is_fraction(told) or not mix_fits(game, 0, one) or not mix_fits(game, 1, other):
        return False
    # What one mix gets at least and another one lets get at most is the worth: there is no more and no less.
    return least_of(table, one) == told and most_of(table, other) == told


def best_mixes(table, side):
    """The ascending list of the best mixes of a side that are the middle of no two others."""
    check_table(table)
    check_side(side)
    return lowest(table, side)[0]
