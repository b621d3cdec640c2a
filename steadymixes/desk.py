"""A desk at which a game is worked on by lines of text."""

from steadymixes.checks import anew
from steadymixes.errors import InvalidCommand, NotReady
from steadymixes.live import Live
from steadymixes.reading import game_of, mix_of, whole_of
from steadymixes.texts import show_blocks, show_game

MOST_FIGURES = 30


def put_number(live, side, row, column, number):
    """The answer to put."""
    live.put(side, row, column, number)
    return "ok"


def move_numbers(live, side, choice, number):
    """The answer to move."""
    live.move(side, choice, number)
    return "ok"


def drop_choice(live, side, choice):
    """The answer to drop."""
    live.drop(side, choice)
    return "ok"


def take_back(live):
    """The answer to back."""
    return live.back()


def tell_game(live):
    """The answer to show."""
    return show_game(live.game)


def tell_pure(live):
    """The answer to pure."""
    pairs = [f"{row} {column}" for row, column in live.pure()]
    return ", ".join(pairs) if pairs else "-"


def tell_blocks(live):
    """The answer to blocks."""
    return show_blocks(live.game, live.blocks())


def tell_left(live):
    """The answer to left."""
    return " ; ".join([" ".join([str(choice) for choice in lot]) for lot in live.left()])


def tell_tie(live):
    """The answer to tie."""
    return "no" if live.tie() is None else "yes"


def tell_signs(live):
    """The answer to signs."""
    return " ".join(["+" if sign > 0 else "-" for _, sign in live.signed()])


def tell_steady(live, one, other):
    """The answer to steady."""
    return "yes" if live.is_steady(one, other) else "no"


# What is done with the Live there is; each function takes behind it what the line has behind the word.
ACTIONS = {
    "put": put_number, "move": move_numbers, "drop": drop_choice, "back": take_back, "show": tell_game,
    "pure": tell_pure, "blocks": tell_blocks, "left": tell_left, "tie": tell_tie, "signs": tell_signs,
    "steady": tell_steady,
}
# How many integers the line has behind the word.
INTEGERS = {"put": 4, "move": 3, "drop": 2}
ALONE = ("back", "show", "pure", "blocks", "left", "tie", "signs")


def values_of(word, rest):
    """What a line has behind its word and a blank, None in the place of what cannot be read."""
    if word == "game":
        return [game_of(rest)]
    if word == "steady":
        mixes = [mix_of(text) for text in rest.split(" x ")]
        return mixes if len(mixes) == 2 else [None]
    numbers = [whole_of(text, MOST_FIGURES) for text in rest.split(" ")]
    return numbers if word in INTEGERS and len(numbers) == INTEGERS[word] else [None]


def command_of(line):
    """The (word, values) of any object that is a command, None of another one."""
    if type(line) is not str:
        return None
    if line in ALONE:
        return line, []
    word, _, rest = line.partition(" ")
    values = values_of(word, rest)
    return None if None in values else (word, values)


class Desk:
    """A desk with a Live on it, once there is one."""

    def __init__(self):
        self._live = None

    def execute(self, line):
        """Does what a line says, and returns a text."""
        command = command_of(line)
        if command is None:
            raise InvalidCommand(anew(line))
        word, values = command
        if word == "game":
            self._live = Live(values[0])
            return "ok"
        if self._live is None:
            raise NotReady(None)
        action = ACTIONS[word]
        return action(self._live, *values)
