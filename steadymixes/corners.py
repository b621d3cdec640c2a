"""Corners and their labels, and mixes as means of corners."""

from itertools import combinations

from steadymixes.checks import check_game_and_side, check_mix, check_mixes, check_weights
from steadymixes.plays import best_choices, lot_of, lots_of, size, spread, table_of
from steadymixes.ratios import ascending, ratio, scaled, sum_of, times
from steadymixes.solving import only_solution, point_or_wall


def labels_of(game, side, mix):
    """The labels of a mix: own choices that have nought, and the other side's best choices."""
    own = [(side, choice) for choice, chance in enumerate(mix) if chance[0] == 0]
    theirs = [(1 - side, choice) for choice in best_choices(game, 1 - side, mix)]
    return tuple(sorted(own + theirs))


def equations(game, side, lot, chosen):
    """For the chances of a lot: they come to 1, and the other side's chosen choices get alike."""
    table = table_of(game, 1 - side)
    first = table[chosen[0]]
    rows = [[1] * len(lot) + [1]]
    for choice in chosen[1:]:
        rows.append([table[choice][own] - first[own] for own in lot] + [0])
    return rows


def stands_alone(game, side, mix):
    """Whether a mix is a corner.

    Heights change evenly on a stretch around a mix just if its lot and the best choices against it
    stay: so a corner is the only mix that they allow.
    """
    lot = lot_of(mix)
    chosen = best_choices(game, 1 - side, mix)
    return only_solution(equations(game, side, lot, chosen), len(lot)) is not None


def corner_with(game, side, lot, chosen):
    """The only mix with a lot against which the chosen choices are best, None if there is not just one."""
    solution = only_solution(equations(game, side, lot, chosen), len(lot))
    if solution is None or min(solution[0]) <= 0:
        return None
    mix = spread(size(game, side), lot, solution[0])
    return mix if chosen[0] in best_choices(game, 1 - side, mix) else None


def corners_of(game, side):
    """The ascending list of all corners of a side."""
    # As many best choices as a corner's lot has pin it down: no larger sets need be tried.
    found = {}
    for lot in lots_of(size(game, side)):
        for chosen in combinations(range(size(game, 1 - side)), len(lot)):
            mix = corner_with(game, side, lot, chosen)
            if mix is not None:
                found[mix] = True
    return ascending(list(found))


def told_corners(game, side):
    """The ascending list of all corners of a side, each with its labels."""
    return [(corner, labels_of(game, side, corner)) for corner in corners_of(game, side)]


def both_corners(game):
    """The corners of both sides, each with its labels."""
    return told_corners(game, 0), told_corners(game, 1)


def flat_among(told, needed):
    """Those of corners told with their labels that have all labels that are needed."""
    return [corner for corner, had in told if all([label in had for label in needed])]


def partners(both):
    """For each corner of the side 0 the places of those of the side 1 that it is steady with."""
    ones, others = both
    # A pair is steady just if no label is missing.
    many = len(ones[0][0]) + len(others[0][0])
    found = []
    for _, had in ones:
        found.append(tuple([at for at, (_, told) in enumerate(others) if len(set(had + told)) == many]))
    return found


def steady_among(both):
    """The ascending list of the steady pairs of corners."""
    ones, others = both
    return [(ones[at][0], others[place][0]) for at, places in enumerate(partners(both)) for place in places]


def labels(game, side, mix):
    """The labels of a mix of a side."""
    check_game_and_side(game, side)
    check_mix(game, side, mix)
    return labels_of(game, side, mix)


def is_corner(game, side, mix):
    """Whether a mix of a side is a corner."""
    check_game_and_side(game, side)
    check_mix(game, side, mix)
    return stands_alone(game, side, mix)


def corners(game, side):
    """The ascending list of all corners of a side."""
    check_game_and_side(game, side)
    return corners_of(game, side)


def mean_of(game, side, mixes, weights):
    """The mean of mixes of a side by weights."""
    check_game_and_side(game, side)
    check_mixes(game, side, mixes)
    check_weights(weights, len(mixes))
    chances = []
    for choice in range(size(game, side)):
        chances.append(sum_of([times(mix[choice], weight) for mix, weight in zip(mixes, weights)]))
    return tuple(chances)


def weights_between(mixes, mix):
    """Weights by which a mix is the mean of mixes, None if there are none."""
    # Each mix is taken times its own below: so all factors are integers, and signs stay.
    factors = [scaled(corner) for corner in mixes]
    wanted, wanted_below = scaled(mix)
    rows = [[numbers[choice] for numbers, _ in factors] for choice in range(len(mix))]
    found, numbers, below = point_or_wall(rows, wanted, len(mixes))
    if not found:
        return None
    belows = [part_below for _, part_below in factors]
    return tuple([ratio(number * part, below * wanted_below) for number, part in zip(numbers, belows)])


def weights_for(game, side, mixes, mix):
    """Weights by which a mix of a side is the mean of mixes of it, None if there are none."""
    check_game_and_side(game, side)
    check_mixes(game, side, mixes)
    check_mix(game, side, mix)
    return weights_between(mixes, mix)


def flat_corners(game, side, mix):
    """The ascending list of the corners that have all labels of a mix."""
    check_game_and_side(game, side)
    check_mix(game, side, mix)
    return flat_among(told_corners(game, side), labels_of(game, side, mix))
