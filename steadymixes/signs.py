"""Ties, and the signs of the steady pairs of games without ties."""

from steadymixes.checks import anew, check_game, check_mixes_of_both, check_steady
from steadymixes.corners import both_corners, steady_among
from steadymixes.errors import HasTies
from steadymixes.kinds import is_tuple_of, mix_fits, side_fits
from steadymixes.plays import best_choices, lot_of
from steadymixes.solving import determinant

# What is added to each number of both tables: all are above nought then.
LIFT = 1001


def tie_among(both):
    """A (side, corner) that is a tie, of the corners of both sides, None if there is none.

    If any mix is one, so is each corner that has all its labels: such a corner has no more choices in
    its lot, and no fewer best ones against it. More best ones than the lot has are more labels than
    the side has choices.
    """
    for side, told in enumerate(both):
        for corner, had in told:
            if len(had) > len(corner):
                return side, corner
    return None


def corners_without_ties(game):
    """The corners of both sides, with the checks of a game without ties."""
    check_game(game)
    both = both_corners(game)
    if tie_among(both) is not None:
        raise HasTies(anew(game))
    return both


def sign_with(game, rows, columns, lift):
    """The sign of the steady pair with these lots, the numbers of the tables being above nought with the lift."""
    product = 1 if len(rows) % 2 == 1 else -1
    for table in game:
        product *= determinant([[table[row][column] + lift for column in columns] for row in rows])
    return 1 if product > 0 else -1


def tie(game):
    """A (side, mix) against which more choices of the other side are best than its lot has, None if there is none."""
    check_game(game)
    return tie_among(both_corners(game))


def tie_holds(game, value):
    """Whether any object is a (side, mix) against which more choices are best than its lot has."""
    check_game(game)
    if not is_tuple_of(value, 2):
        return False
    side, mix = value
    if not side_fits(side) or not mix_fits(game, side, mix):
        return False
    return len(best_choices(game, 1 - side, mix)) > len(lot_of(mix))


def sign(game, one, other):
    """The sign of a steady pair of a game without ties."""
    corners_without_ties(game)
    check_mixes_of_both(game, one, other)
    check_steady(game, one, other)
    return sign_with(game, lot_of(one), lot_of(other), LIFT)


def signed(game):
    """The ascending list of ((one, other), sign) for all steady pairs of a game without ties."""
    found = []
    for one, other in steady_among(corners_without_ties(game)):
        found.append(((one, other), sign_with(game, lot_of(one), lot_of(other), LIFT)))
    return found
