"""Errors for what is passed and is not of the kind that it must be."""

from steadymixes.errors import (
    InvalidChanges,
    InvalidGame,
    InvalidLabel,
    InvalidLot,
    InvalidMix,
    InvalidNumber,
    InvalidPrizes,
    InvalidSide,
    InvalidTable,
    NotSteady,
)
from steadymixes.kinds import (
    are_chances,
    changes_fit,
    choice_fits,
    game_fits,
    is_fraction,
    is_whole,
    label_fits,
    lot_fits,
    many_fits,
    mix_fits,
    number_fits,
    prizes_fit,
    side_fits,
    steady_fits,
    table_fits,
)
from steadymixes.plays import steady_pair


def anew(value):
    """An object in which all lists and tuples are built anew, so that an error keeps no caller's list."""
    if type(value) is list:
        return [anew(part) for part in value]
    if type(value) is tuple:
        return tuple([anew(part) for part in value])
    return value


def check_game(game):
    """InvalidGame for what is no game."""
    if not game_fits(game):
        raise InvalidGame(anew(game))


def check_side(side):
    """InvalidSide for what is no side."""
    if not side_fits(side):
        raise InvalidSide(anew(side))


def check_game_and_side(game, side):
    """The two checks that most functions begin with."""
    check_game(game)
    check_side(side)


def check_mix(game, side, mix):
    """InvalidMix for what is no mix of the side."""
    if not mix_fits(game, side, mix):
        raise InvalidMix(anew(mix))


def check_mixes(game, side, mixes):
    """InvalidMix with the first of a list that is no mix of the side."""
    for mix in mixes:
        check_mix(game, side, mix)


def check_mixes_of_both(game, one, other):
    """InvalidMix for what is no mix of its side."""
    check_mix(game, 0, one)
    check_mix(game, 1, other)


def check_pair(game, one, other):
    """The checks of a game and a mix of each side."""
    check_game(game)
    check_mixes_of_both(game, one, other)


def check_lot(game, side, lot):
    """InvalidLot for what is no lot of the side."""
    if not lot_fits(game, side, lot):
        raise InvalidLot(anew(lot))


def check_lots(game, rows, columns):
    """The checks of a game and a lot of each side."""
    check_game(game)
    check_lot(game, 0, rows)
    check_lot(game, 1, columns)


def check_choice(game, side, choice):
    """InvalidNumber for what is no choice of the side."""
    if not choice_fits(game, side, choice):
        raise InvalidNumber(anew(choice))


def check_number(number):
    """InvalidNumber for what cannot stand in a table."""
    if not number_fits(number):
        raise InvalidNumber(anew(number))


def check_many(many):
    """InvalidNumber for what is no number of choices that a side can have."""
    if not many_fits(many):
        raise InvalidNumber(anew(many))


def check_chances(mix, many):
    """InvalidMix for what is no mix of so many choices."""
    if not are_chances(mix, many):
        raise InvalidMix(anew(mix))


def check_weights(weights, many):
    """InvalidNumber for what is no tuple of so many weights that come to 1."""
    if not are_chances(weights, many):
        raise InvalidNumber(anew(weights))


def check_index(index, many):
    """InvalidNumber for what is no index into a list of so many."""
    if not is_whole(index) or not 0 <= index < many:
        raise InvalidNumber(anew(index))


def check_steady(game, one, other):
    """NotSteady for a mix of each side that are no steady pair."""
    if not steady_pair(game, one, other):
        raise NotSteady(anew((one, other)))


def check_start(game, start):
    """NotSteady for what is neither None, which is the beginning, nor a steady pair."""
    if start is not None and not steady_fits(game, start):
        raise NotSteady(anew(start))


def check_label(game, label):
    """InvalidLabel for what is no label of the game."""
    if not label_fits(game, label):
        raise InvalidLabel(anew(label))


def check_changes(game, changes):
    """InvalidChanges for what is no changes for the game."""
    if not changes_fit(game, changes):
        raise InvalidChanges(anew(changes))


def check_table(table):
    """InvalidTable for what is no table."""
    if not table_fits(table):
        raise InvalidTable(anew(table))


def check_prizes(game, prizes):
    """InvalidPrizes for what is no prizes for the game."""
    if not prizes_fit(game, prizes):
        raise InvalidPrizes(anew(prizes))


def check_fraction(number):
    """InvalidNumber for what is no fraction."""
    if not is_fraction(number):
        raise InvalidNumber(anew(number))
