"""Steady pairs, and for each two lots a steady pair or a bar."""

from steadymixes.checks import check_game, check_lots, check_pair
from steadymixes.corners import both_corners, steady_among
from steadymixes.kinds import is_tuple_of, is_whole, mix_fits, side_fits
from steadymixes.plays import lot_of, lots_of, size, spread, steady_pair, table_of
from steadymixes.solving import point_or_wall


def is_steady(game, one, other):
    """Whether a pair of mixes is steady."""
    check_pair(game, one, other)
    return steady_pair(game, one, other)


def some_steady(game):
    """A steady pair of a game."""
    check_game(game)
    # Of every game some steady pair has corners alone.
    return steady_among(both_corners(game))[0]


def steady_with(game, rows, columns):
    """A steady pair whose lots are just these, None if there is none."""
    check_lots(game, rows, columns)
    word, one, other = paper_of(game, rows, columns)
    return (one, other) if word == "pair" else None


def pure(game):
    """The ascending list of the (row, column) that are steady as mixes of one choice each."""
    check_game(game)
    first, second = game
    most = [max(column) for column in zip(*first)]
    found = []
    for row, numbers in enumerate(second):
        for column, number in enumerate(numbers):
            if number == max(numbers) and first[row][column] == most[column]:
                found.append((row, column))
    return found


def mix_or_bar(game, side, lot, target):
    """A mix of a side with just a lot against which all of a target are best, or the numbers of a bar.

    Tells (True, mix) or (False, numbers).
    """
    table = table_of(game, 1 - side)
    first = target[0]
    rest = [choice for choice in range(len(table)) if choice != first]
    behind = [choice for choice in rest if choice not in target]
    rows, wanted = [], []
    for choice in rest:
        leads = [table[choice][own] - table[first][own] for own in lot]
        rows.append(leads + [1 if choice == spare else 0 for spare in behind])
        # Every chance of the lot is at least 1 here, before all are brought to come to 1:
        # what the solver finds is how much more than that each is.
        wanted.append(-sum(leads))
    found, numbers, below = point_or_wall(rows, wanted, len(lot) + len(behind))
    if found:
        chances = [below + number for number in numbers[:len(lot)]]
        return True, spread(size(game, side), lot, chances)
    # The bar's number at the first of the target makes all of them come to 0.
    bar = [0] * len(table)
    for choice, number in zip(rest, numbers):
        bar[choice] = number
    bar[first] = -sum(numbers)
    return False, tuple(bar)


def paper_of(game, rows, columns):
    """The paper of two lots of a game, all of which are known to be such."""
    found, one = mix_or_bar(game, 0, rows, columns)
    if not found:
        return "bar", 0, one
    found, other = mix_or_bar(game, 1, columns, rows)
    if not found:
        return "bar", 1, other
    return "pair", one, other


def lots_paper(game, rows, columns):
    """A steady pair with just these lots, or a bar if there is none."""
    check_lots(game, rows, columns)
    return paper_of(game, rows, columns)


def pair_holds(game, lots, one, other):
    """Whether any two objects are a steady pair with just these lots."""
    if not mix_fits(game, 0, one) or not mix_fits(game, 1, other):
        return False
    return (lot_of(one), lot_of(other)) == lots and steady_pair(game, one, other)


def bar_holds(game, lots, side, numbers):
    """Whether any two objects are the side and the numbers of a bar for these lots."""
    if not side_fits(side) or not is_tuple_of(numbers, size(game, 1 - side)):
        return False
    if not all([is_whole(number) for number in numbers]) or sum(numbers) != 0:
        return False
    target = lots[1 - side]
    if any([number < 0 for choice, number in enumerate(numbers) if choice not in target]):
        return False
    table = table_of(game, 1 - side)
    sums = [sum([number * row[own] for number, row in zip(numbers, table)]) for own in lots[side]]
    return min(sums) >= 0 and max(sums) > 0


def lots_paper_holds(game, rows, columns, value):
    """Whether any object is a paper of two lots: a steady pair with just these, or a bar."""
    check_lots(game, rows, columns)
    if not is_tuple_of(value, 3):
        return False
    word, first, second = value
    if type(word) is not str:
        return False
    if word == "pair":
        return pair_holds(game, (rows, columns), first, second)
    return word == "bar" and bar_holds(game, (rows, columns), first, second)


def whole_paper(game):
    """The list of the papers of all two lots of a game."""
    check_game(game)
    columns_lots = lots_of(size(game, 1))
    return [paper_of(game, rows, columns) for rows in lots_of(size(game, 0)) for columns in columns_lots]
