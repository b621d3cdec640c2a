"""Games, sides, mixes and lots, and what the sides get."""

from steadymixes.checks import check_choice, check_game, check_game_and_side, check_lot, check_mix, check_pair
from steadymixes.errors import InvalidNumber
from steadymixes.kinds import game_fits, lot_fits, mix_fits
from steadymixes.plays import best_choices, exchanged, height_over, lot_of, size, spread, taken
from steadymixes.ratios import ratio, scaled


def is_game(value):
    """Whether any object is a game."""
    return game_fits(value)


def is_mix(game, side, value):
    """Whether any object is a mix of a side."""
    check_game_and_side(game, side)
    return mix_fits(game, side, value)


def is_lot(game, side, value):
    """Whether any object is a lot of a side."""
    check_game_and_side(game, side)
    return lot_fits(game, side, value)


def lot(game, side, mix):
    """The lot of a mix."""
    check_game_and_side(game, side)
    check_mix(game, side, mix)
    return lot_of(mix)


def even_mix(game, side, lot):
    """The mix with as much for each choice of a lot."""
    check_game_and_side(game, side)
    check_lot(game, side, lot)
    return spread(size(game, side), lot, [1] * len(lot))


def got_and_best(game, side, mine, theirs):
    """What a side gets by its mix against the other's, and by a best choice: integers, and their below."""
    numbers, below = taken(game, side, theirs)
    chances, own_below = scaled(mine)
    got = sum([chance * number for chance, number in zip(chances, numbers)])
    return got, max(numbers) * own_below, below * own_below


def gets(game, one, other):
    """The tuple of what the two sides get by a pair of mixes."""
    check_pair(game, one, other)
    first, _, first_below = got_and_best(game, 0, one, other)
    second, _, second_below = got_and_best(game, 1, other, one)
    return ratio(first, first_below), ratio(second, second_below)


def best(game, side, mix):
    """The best choices of a side against a mix of the other one."""
    check_game_and_side(game, side)
    check_mix(game, 1 - side, mix)
    return best_choices(game, side, mix)


def height(game, side, mix):
    """What the other side gets by a best choice against a mix of a side."""
    check_game_and_side(game, side)
    check_mix(game, side, mix)
    return height_over(game, side, mix)


def gains(game, one, other):
    """The tuple of how much more each side gets by a best choice than by its mix."""
    check_pair(game, one, other)
    first, first_most, first_below = got_and_best(game, 0, one, other)
    second, second_most, second_below = got_and_best(game, 1, other, one)
    return ratio(first_most - first, first_below), ratio(second_most - second, second_below)


def turned(game):
    """The game with the sides exchanged."""
    check_game(game)
    return exchanged(game)


def raised(row, at, number):
    """A row with a number added at one place."""
    return row[:at] + (row[at] + number,) + row[at + 1:]


def moved(game, side, choice, number):
    """The game with a number added to all that a side gets where the other side picks a choice."""
    check_game_and_side(game, side)
    check_choice(game, 1 - side, choice)
    first, second = game if side == 0 else exchanged(game)
    changed = tuple([raised(row, choice, number) for row in first]), second
    new_game = changed if side == 0 else exchanged(changed)
    check_game(new_game)
    return new_game


def without(game, side, choice):
    """The game without a choice of a side."""
    check_game_and_side(game, side)
    check_choice(game, side, choice)
    if size(game, side) == 1:
        raise InvalidNumber(choice)
    first, second = game if side == 0 else exchanged(game)
    left = first[:choice] + first[choice + 1:], second[:choice] + second[choice + 1:]
    return left if side == 0 else exchanged(left)
