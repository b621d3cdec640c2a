"""Choices that a mix beats, and what is left when all such are struck out."""

from steadymixes.blocks import blocks_among
from steadymixes.checks import check_choice, check_game, check_game_and_side, check_mix
from steadymixes.corners import both_corners
from steadymixes.kinds import choice_fits, is_tuple_of, mix_fits, side_fits
from steadymixes.plays import lot_of, size, spread, table_of
from steadymixes.ratios import scaled
from steadymixes.solving import point_or_wall


def gets_more(game, side, mix, choice, others):
    """Whether a mix of a side gets more than a choice of it against each of some choices of the other side."""
    table = table_of(game, side)
    chances, below = scaled(mix)
    sums = [sum([chance * row[their] for chance, row in zip(chances, table)]) for their in others]
    return all([total > below * table[choice][their] for total, their in zip(sums, others)])


def best_or_beaten(game, side, choice):
    """What shows whether a choice is ever best.

    Tells (True, mix), a mix of the other side against which it is, or (False, mix), one of its side that beats it.
    """
    table = table_of(game, side)
    rest = [own for own in range(len(table)) if own != choice]
    many = size(game, 1 - side)
    # The other side's chances come to 1, and the choice's lead over each other one is what is left over.
    rows = [[1] * many + [0] * len(rest)]
    for own in rest:
        leads = [number - less for number, less in zip(table[choice], table[own])]
        rows.append(leads + [-1 if own == over else 0 for over in rest])
    found, numbers, _ = point_or_wall(rows, [1] + [0] * len(rest), many + len(rest))
    if found:
        return True, spread(many, list(range(many)), numbers[:many])
    # Of a wall no number of a lead is above nought: taken from nought they are chances of a mix that beats it.
    return False, spread(len(table), rest, [-number for number in numbers[1:]])


def part_of(game, lots):
    """The game of the rows and columns of two lots alone."""
    rows, columns = lots
    return tuple([tuple([tuple([table[row][column] for column in columns]) for row in rows]) for table in game])


def widened(many, lot, mix):
    """The mix of so many choices in which those of a lot have the chances of a mix of the lot alone."""
    chances = [(0, 1)] * many
    for choice, chance in zip(lot, mix):
        chances[choice] = chance
    return tuple(chances)


def all_lots(game):
    """The lots of all choices of both sides."""
    return tuple(range(size(game, 0))), tuple(range(size(game, 1)))


def lots_without(lots, side, choice):
    """Two lots, but for a choice of one of them."""
    rows, columns = lots
    if side == 0:
        return tuple([row for row in rows if row != choice]), columns
    return rows, tuple([column for column in columns if column != choice])


def next_strike(game, lots):
    """A (side, choice, mix) that can be struck where two lots are left, None if nothing can."""
    rest = part_of(game, lots)
    for side, lot in enumerate(lots):
        for at, choice in enumerate(lot):
            best, mix = best_or_beaten(rest, side, at)
            if not best:
                return side, choice, widened(size(game, side), lot, mix)
    return None


def struck_out(game):
    """The list of the strikes up to the end, and the lots that are left then."""
    lots, struck = all_lots(game), []
    strike = next_strike(game, lots)
    while strike is not None:
        struck.append(strike)
        lots = lots_without(lots, strike[0], strike[1])
        strike = next_strike(game, lots)
    return struck, lots


def strike_fits(game, lots, value):
    """Whether any object is a strike where two lots are left."""
    if not is_tuple_of(value, 3):
        return False
    side, choice, mix = value
    if not side_fits(side) or not choice_fits(game, side, choice) or not mix_fits(game, side, mix):
        return False
    if choice not in lots[side] or not all([own in lots[side] for own in lot_of(mix)]):
        return False
    return gets_more(game, side, mix, choice, lots[1 - side])


def beats(game, side, mix, choice):
    """Whether a mix of a side gets more than a choice of it against each choice of the other side."""
    check_game_and_side(game, side)
    check_mix(game, side, mix)
    check_choice(game, side, choice)
    return gets_more(game, side, mix, choice, list(range(size(game, 1 - side))))


def beaten_by(game, side, choice):
    """A mix of a side that beats a choice of it, None if there is none."""
    check_game_and_side(game, side)
    check_choice(game, side, choice)
    best, mix = best_or_beaten(game, side, choice)
    return None if best else mix


def best_against(game, side, choice):
    """A mix of the other side against which a choice is best, None if there is none."""
    check_game_and_side(game, side)
    check_choice(game, side, choice)
    best, mix = best_or_beaten(game, side, choice)
    return mix if best else None


def left(game):
    """The lots (rows, columns) that are left when no choice can be struck any more."""
    check_game(game)
    return struck_out(game)[1]


def strikes(game):
    """A list of (side, choice, mix), one strike behind the other, up to where no choice can be struck any more."""
    check_game(game)
    return struck_out(game)[0]


def strikes_hold(game, value):
    """Whether any object is a list of strikes up to where no choice can be struck any more."""
    check_game(game)
    if type(value) is not list:
        return False
    lots = all_lots(game)
    for strike in value:
        if not strike_fits(game, lots, strike):
            return False
        side, choice, _ = strike
        lots = lots_without(lots, side, choice)
    return next_strike(game, lots) is None


def steady_left(game):
    """The ascending list of the blocks of the game that is left, with nothing on what is struck."""
    check_game(game)
    lots = struck_out(game)[1]
    found = []
    for block in blocks_among(both_corners(part_of(game, lots))):
        sides = []
        for side, mixes in enumerate(block):
            sides.append(tuple([widened(size(game, side), lots[side], mix) for mix in mixes]))
        found.append(tuple(sides))
    return found
