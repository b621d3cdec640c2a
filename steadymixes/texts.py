"""Fractions, mixes, games and blocks as texts."""


def show_fraction(fraction):
    """A fraction as a text: its above alone where the below is 1."""
    above, below = fraction
    return str(above) if below == 1 else f"{above}/{below}"


def show_mix(mix):
    """A mix as a text: its fractions with blanks between."""
    return " ".join([show_fraction(chance) for chance in mix])


def show_game(game):
    """A game as a text: what both sides get at each field, row by row."""
    rows = []
    for first, second in zip(game[0], game[1]):
        rows.append(" ".join([f"{number},{other}" for number, other in zip(first, second)]))
    return " ; ".join(rows)


def show_mixes(mixes):
    """Mixes of one side of a block as a text."""
    return " , ".join([show_mix(mix) for mix in mixes])


def show_blocks(game, blocks):
    """Blocks of a game as a text, each as its ones and its others."""
    shown = [f"{show_mixes(ones)} x {show_mixes(others)}" for ones, others in blocks]
    return " ; ".join(shown) if shown else "-"
