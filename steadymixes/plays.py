"""What sides get against mixes, of games and mixes that are known to be such."""

from itertools import combinations

from steadymixes.ratios import ratio, scaled


def size(game, side):
    """How many choices a side has."""
    first = game[0]
    return len(first) if side == 0 else len(first[0])


def table_of(game, side):
    """What a side gets: a row for each of its own choices, whichever side it is."""
    first, second = game
    return first if side == 0 else tuple(zip(*second))


def exchanged(game):
    """The game with the sides exchanged."""
    first, second = game
    return tuple(zip(*second)), tuple(zip(*first))


def lots_of(many):
    """All lots of so many choices, by their number of choices, then as tuples compare."""
    return [lot for length in range(1, many + 1) for lot in combinations(range(many), length)]


def lot_of(mix):
    """The choices that have more than nought."""
    return tuple([choice for choice, chance in enumerate(mix) if chance[0] > 0])


def spread(many, lot, numbers):
    """The mix of so many choices in which those of a lot have chances like the numbers."""
    below = sum(numbers)
    chances = [(0, 1)] * many
    for choice, number in zip(lot, numbers):
        chances[choice] = ratio(number, below)
    return tuple(chances)


def taken(game, side, mix):
    """What a side gets by each choice against a mix of the other one: (numbers, below)."""
    chances, below = scaled(mix)
    numbers = []
    for row in table_of(game, side):
        numbers.append(sum([number * chance for number, chance in zip(row, chances)]))
    return numbers, below


def best_choices(game, side, mix):
    """The choices of a side that get the most against a mix of the other one."""
    numbers = taken(game, side, mix)[0]
    most = max(numbers)
    return tuple([choice for choice, number in enumerate(numbers) if number == most])


def height_over(game, side, mix):
    """What the other side gets by a best choice against a mix of a side."""
    numbers, below = taken(game, 1 - side, mix)
    return ratio(max(numbers), below)


def steady_pair(game, one, other):
    """Whether each choice of each lot is best against the other mix."""
    rows = best_choices(game, 0, other)
    columns = best_choices(game, 1, one)
    return all([row in rows for row in lot_of(one)]) and all([column in columns for column in lot_of(other)])
