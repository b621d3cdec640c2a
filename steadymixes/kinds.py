"""Whether any object is of a kind that the document tells."""

from math import gcd

from steadymixes.plays import size, steady_pair
from steadymixes.ratios import sum_of

BOUND = 1000
MOST_CHOICES = 5


def is_whole(value):
    """Whether any object is an integer; True and False are none."""
    return type(value) is int


def is_tuple_of(value, many):
    """Whether any object is a tuple of so many things."""
    return type(value) is tuple and len(value) == many


def is_fraction(value):
    """Whether any object is a fraction in lowest terms."""
    if not is_tuple_of(value, 2):
        return False
    above, below = value
    return is_whole(above) and is_whole(below) and below >= 1 and gcd(above, below) == 1


def are_chances(value, many):
    """Whether any object is a tuple of so many fractions, none below nought, that come to 1."""
    if not is_tuple_of(value, many):
        return False
    if not all([is_fraction(part) and part[0] >= 0 for part in value]):
        return False
    return sum_of(value) == (1, 1)


def number_fits(value):
    """Whether any object is a number such as stands in tables, and in changes and prizes, too."""
    return is_whole(value) and -BOUND <= value <= BOUND


def are_numbers(value):
    """Whether any object is a tuple of such numbers."""
    return type(value) is tuple and all([number_fits(number) for number in value])


def many_fits(value):
    """Whether any object is a number of choices that a side can have."""
    return is_whole(value) and 1 <= value <= MOST_CHOICES


def is_row(value):
    """Whether any object can be a row of a table."""
    return are_numbers(value) and many_fits(len(value))


def table_fits(value):
    """Whether any object can be a table of a game."""
    if type(value) is not tuple or not many_fits(len(value)):
        return False
    return all([is_row(row) for row in value]) and len(set([len(row) for row in value])) == 1


def game_fits(value):
    """Whether any object is a game."""
    if not is_tuple_of(value, 2):
        return False
    first, second = value
    if not table_fits(first) or not table_fits(second):
        return False
    return len(first) == len(second) and len(first[0]) == len(second[0])


def side_fits(value):
    """Whether any object is a side."""
    return is_whole(value) and value in (0, 1)


def mix_fits(game, side, value):
    """Whether any object is a mix of a side."""
    return are_chances(value, size(game, side))


def choice_fits(game, side, value):
    """Whether any object is a choice of a side."""
    return is_whole(value) and 0 <= value < size(game, side)


def lot_fits(game, side, value):
    """Whether any object is a lot of a side."""
    if type(value) is not tuple or not value:
        return False
    if not all([choice_fits(game, side, choice) for choice in value]):
        return False
    return all([value[at] < value[at + 1] for at in range(len(value) - 1)])


def label_fits(game, value):
    """Whether any object is a label of a game."""
    return is_tuple_of(value, 2) and side_fits(value[0]) and choice_fits(game, value[0], value[1])


def changes_fit(game, value):
    """Whether any object is changes for a game."""
    # Changes have all that makes two tables a game, and the game's own shape.
    return game_fits(value) and all([size(value, side) == size(game, side) for side in (0, 1)])


def prizes_fit(game, value):
    """Whether any object is prizes for a game."""
    if not is_tuple_of(value, 2):
        return False
    return all([are_numbers(numbers) and len(numbers) == size(game, side) for side, numbers in enumerate(value)])


def steady_fits(game, value):
    """Whether any object is a steady pair of a game."""
    if not is_tuple_of(value, 2):
        return False
    one, other = value
    return mix_fits(game, 0, one) and mix_fits(game, 1, other) and steady_pair(game, one, other)
