"""Games and mixes read from their texts."""

from steadymixes.checks import anew
from steadymixes.errors import Unreadable
from steadymixes.kinds import are_chances, game_fits, is_fraction, many_fits

DIGITS = "0123456789"
# As many figures as the greatest number of a game has, and as a mix may have.
GAME_FIGURES = 4
MIX_FIGURES = 300


def whole_of(text, most):
    """The integer whose text this is, of at most so many figures, None if it is the text of none."""
    figures = text[1:] if text[:1] == "-" else text
    if not 1 <= len(figures) <= most or not all([figure in DIGITS for figure in figures]):
        return None
    if figures[0] == "0" and text != "0":
        return None
    return int(text)


def field_of(text):
    """The (first, second) whose text this is, None if it is the text of none."""
    words = text.split(",")
    numbers = [whole_of(word, GAME_FIGURES) for word in words]
    return None if len(words) != 2 or None in numbers else tuple(numbers)


def game_of(text):
    """The game whose text any object is, None if it is the text of none."""
    if type(text) is not str:
        return None
    rows = [[field_of(word) for word in line.split(" ")] for line in text.split(" ; ")]
    if any([None in row for row in rows]):
        return None
    first = tuple([tuple([field[0] for field in row]) for row in rows])
    second = tuple([tuple([field[1] for field in row]) for row in rows])
    return (first, second) if game_fits((first, second)) else None


def fraction_of(text):
    """The fraction whose text this is, None if it is the text of none."""
    words = text.split("/")
    numbers = tuple([whole_of(word, MIX_FIGURES) for word in words])
    if None in numbers:
        return None
    if len(numbers) == 1:
        return numbers[0], 1
    # A below of 1 is not shown.
    return numbers if is_fraction(numbers) and numbers[1] > 1 else None


def mix_of(text):
    """The mix, of whatever number of choices, whose text any object is, None if it is the text of none."""
    if type(text) is not str:
        return None
    chances = tuple([fraction_of(word) for word in text.split(" ")])
    fits = many_fits(len(chances)) and are_chances(chances, len(chances))
    return chances if fits else None


def read_game(text):
    """The game that has this text."""
    game = game_of(text)
    if game is None:
        raise Unreadable(anew(text))
    return game


def read_mix(text):
    """The mix of 1 to 5 choices that has this text."""
    mix = mix_of(text)
    if mix is None:
        raise Unreadable(anew(text))
    return mix
