"""The errors that the package raises."""


class MixError(ValueError):
    """What every error of the package is; it keeps the value that it is made of."""

    def __init__(self, value):
        ValueError.__init__(self, value)
        self.value = value


class InvalidGame(MixError):
    """The value is no game."""


class InvalidMix(MixError):
    """The value is no mix of the side."""


class InvalidLot(MixError):
    """The value is no lot of the side."""


class InvalidSide(MixError):
    """The value is no side."""


class InvalidNumber(MixError):
    """The value is out of what is told of it."""


class InvalidLabel(MixError):
    """The value is no label of the game."""


class NotSteady(MixError):
    """The value is no steady pair of the game."""


class HasTies(MixError):
    """The value is a game with ties."""


class InvalidChanges(MixError):
    """The value is no changes for the game."""


class Tied(MixError):
    """The value is changes that do not untie the game."""


class InvalidTable(MixError):
    """The value is no table."""


class InvalidPrizes(MixError):
    """The value is no prizes for the game."""


class Nothing(MixError):
    """No deed stands that could be taken back."""


class Unreadable(MixError):
    """The value cannot be read."""


class InvalidCommand(MixError):
    """The value is no command."""


class NotReady(MixError):
    """What is asked for is not ready."""
