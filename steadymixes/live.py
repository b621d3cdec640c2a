"""A game that is worked on, deed by deed."""

from steadymixes.blocks import blocks
from steadymixes.checks import check_choice, check_game, check_number, check_side
from steadymixes.errors import Nothing
from steadymixes.games import moved, without
from steadymixes.signs import signed, tie
from steadymixes.steady import is_steady, pure
from steadymixes.striking import left


def with_number(game, side, row, column, number):
    """The game with a number for what a side gets at a field."""
    table = [list(numbers) for numbers in game[side]]
    table[row][column] = number
    changed = tuple([tuple(numbers) for numbers in table])
    return (changed, game[1]) if side == 0 else (game[0], changed)


class Live:
    """A game that is worked on: each deed that stands can be taken back."""

    def __init__(self, game):
        check_game(game)
        self._game = game
        # Each deed that stands, with the game that was there ahead of it.
        self._past = []

    @property
    def game(self):
        """The game as it is now."""
        return self._game

    @property
    def story(self):
        """The deeds that stand, the eldest first."""
        return tuple([deed for deed, _ in self._past])

    def _become(self, deed, game):
        """Lets a deed stand, by which the game becomes another one."""
        self._past.append((deed, self._game))
        self._game = game

    def put(self, side, row, column, number):
        """Makes a number what a side gets at a field."""
        check_side(side)
        check_choice(self._game, 0, row)
        check_choice(self._game, 1, column)
        check_number(number)
        self._become(("put", side, row, column, number), with_number(self._game, side, row, column, number))

    def move(self, side, choice, number):
        """Adds a number to all that a side gets where the other side picks a choice."""
        self._become(("move", side, choice, number), moved(self._game, side, choice, number))

    def drop(self, side, choice):
        """Takes a choice of a side away."""
        self._become(("drop", side, choice), without(self._game, side, choice))

    def back(self):
        """Takes the last deed that stands back, and tells its word."""
        if not self._past:
            raise Nothing(None)
        deed, game = self._past.pop()
        self._game = game
        return deed[0]

    def pure(self):
        """The steady pairs of one choice each."""
        return pure(self._game)

    def blocks(self):
        """All blocks."""
        return blocks(self._game)

    def tie(self):
        """A tie, None if there is none."""
        return tie(self._game)

    def left(self):
        """What is left when no choice can be struck any more."""
        return left(self._game)

    def signed(self):
        """All steady pairs with their signs."""
        return signed(self._game)

    def is_steady(self, one, other):
        """Whether a pair of mixes is steady."""
        return is_steady(self._game, one, other)

    def twin(self):
        """Another one with the same deeds, all of which it can take back."""
        twin = Live(self._game)
        twin._past = list(self._past)
        return twin

    def __len__(self):
        return len(self._past)

    def __eq__(self, other):
        return isinstance(other, Live) and self._game == other._game
