"""How steady pairs come and go as prizes for choices are raised."""

from itertools import combinations

from steadymixes.checks import check_fraction, check_game, check_lot, check_mixes_of_both, check_prizes
from steadymixes.corners import corners_of, equations
from steadymixes.plays import best_choices, lot_of, lots_of, size, spread, steady_pair
from steadymixes.ratios import extremes, ratio, scaled
from steadymixes.solving import only_solution
from steadymixes.steady import paper_of


def game_at(game, prizes, t):
    """The game at t, times the below of t so that its numbers are integers."""
    above, below = t
    first, second = game
    row_prizes, column_prizes = prizes
    raised_first, raised_second = [], []
    for numbers, prize in zip(first, row_prizes):
        raised_first.append(tuple([below * number + above * prize for number in numbers]))
    for numbers in second:
        raised_second.append(tuple([below * number + above * prize for number, prize in zip(numbers, column_prizes)]))
    return tuple(raised_first), tuple(raised_second)


def bend_with(game, prizes, side, lot, chosen):
    """The only t and mix with a lot against which the chosen choices are best then, None if there are not just one.

    Tells (t, lot, best), with all choices that are best against the mix at t.
    """
    theirs = prizes[1 - side]
    growths = [0] + [theirs[choice] - theirs[chosen[0]] for choice in chosen[1:]]
    rows = [row[:-1] + [growth] + row[-1:] for row, growth in zip(equations(game, side, lot, chosen), growths)]
    solution = only_solution(rows, len(lot) + 1)
    if solution is None or min(solution[0][:-1]) <= 0:
        return None
    numbers, below = solution
    t = ratio(numbers[-1], below)
    best = best_choices(game_at(game, prizes, t), 1 - side, spread(size(game, side), lot, numbers[:-1]))
    return (t, lot, best) if chosen[0] in best else None


def bends_of(game, prizes, side):
    """The list of (t, lot, best) for those t and mixes of a side that are alone with their lot and best choices.

    All t and mixes by which a lot, or less of it, makes some choices best are means of such ones, but for what
    comes by t going on and on. Where all prizes of the other side are alike, no t is alone; t alters nothing then,
    and corners do as well, at whatever t.
    """
    if min(prizes[1 - side]) == max(prizes[1 - side]):
        return [((0, 1), lot_of(mix), best_choices(game, 1 - side, mix)) for mix in corners_of(game, side)]
    found = {}
    for lot in lots_of(size(game, side)):
        for chosen in combinations(range(size(game, 1 - side)), len(lot) + 1):
            bend = bend_with(game, prizes, side, lot, chosen)
            if bend is not None:
                found[bend] = True
    return list(found)


def within(lot, other_lot):
    """Whether all choices of a lot are in another one."""
    return all([choice in other_lot for choice in lot])


def covered(lots, lot):
    """Whether each choice of a lot is in some of the lots."""
    return all([any([choice in told for told in lots]) for choice in lot])


def stretch_of(bends, theirs, lot, target):
    """The stretch of all t at which some mix with just a lot makes all of a target best, None if there are none.

    Tells (least, its, greatest, own), as span does. The bends are those of the mix's side, theirs are the prizes
    of the other one. A mean of bends has what any of them has in its lot: so there are such mixes just if the
    bends near the lot make it up, and at an end just if those at that end do.
    """
    near = [(t, told) for t, told, best in bends if within(told, lot) and within(target, best)]
    if not covered([told for _, told in near], lot):
        return None
    least, greatest = extremes([t for t, _ in near])
    its = covered([told for t, told in near if t == least], lot)
    own = covered([told for t, told in near if t == greatest], lot)
    # Choices that lose most, or win most, by prizes stay best however far t goes.
    if all([theirs[choice] == min(theirs) for choice in target]):
        least, its = None, False
    if all([theirs[choice] == max(theirs) for choice in target]):
        greatest, own = None, False
    return least, its, greatest, own


def in_stretch(stretch, t):
    """Whether a stretch has a t that is one of its ends, or between them."""
    least, its, greatest, own = stretch
    if t == least:
        return its
    return own if t == greatest else True


def both_in(one, other):
    """What two stretches have in common, as a stretch, None if that is nothing."""
    leasts = [stretch[0] for stretch in (one, other) if stretch[0] is not None]
    greatests = [stretch[2] for stretch in (one, other) if stretch[2] is not None]
    least = extremes(leasts)[1] if leasts else None
    greatest = extremes(greatests)[0] if greatests else None
    its = least is not None and in_stretch(one, least) and in_stretch(other, least)
    own = greatest is not None and in_stretch(one, greatest) and in_stretch(other, greatest)
    if least is not None and greatest is not None:
        if extremes([least, greatest])[0] != least or least == greatest and not its:
            return None
    return least, its, greatest, own


def span_among(prizes, both, rows, columns):
    """The span of two lots, of the bends of both sides."""
    one = stretch_of(both[0], prizes[1], rows, columns)
    other = stretch_of(both[1], prizes[0], columns, rows)
    return None if one is None or other is None else both_in(one, other)


def both_bends(game, prizes):
    """The bends of both sides."""
    return bends_of(game, prizes, 0), bends_of(game, prizes, 1)


def all_spans(game, prizes):
    """The list of (rows, columns, span) of all lots that have one, by their lots."""
    both = both_bends(game, prizes)
    found = []
    for rows in lots_of(size(game, 0)):
        for columns in lots_of(size(game, 1)):
            told = span_among(prizes, both, rows, columns)
            if told is not None:
                found.append((rows, columns, told))
    return found


def check_game_and_prizes(game, prizes):
    """The two checks that all functions here begin with."""
    check_game(game)
    check_prizes(game, prizes)


def steady_at(game, prizes, t, one, other):
    """Whether a pair of mixes is steady in the game at t."""
    check_game_and_prizes(game, prizes)
    check_fraction(t)
    check_mixes_of_both(game, one, other)
    return steady_pair(game_at(game, prizes, t), one, other)


def span(game, prizes, rows, columns):
    """The ends (least, its, greatest, own) of all t at which two lots have a steady pair, None if there are none."""
    check_game_and_prizes(game, prizes)
    check_lot(game, 0, rows)
    check_lot(game, 1, columns)
    return span_among(prizes, both_bends(game, prizes), rows, columns)


def spans(game, prizes):
    """The list of (rows, columns, span) of all lots that have one, by least ends."""
    check_game_and_prizes(game, prizes)
    found = all_spans(game, prizes)
    # Fractions as tuples would compare by their integers; over one common below those are the worths.
    numbers = scaled([(0, 1) if told[0] is None else told[0] for _, _, told in found])[0]
    keyed = []
    for number, (rows, columns, told) in zip(numbers, found):
        least, its, _, _ = told
        keyed.append((least is not None, number, not its, rows, columns, told))
    return [(rows, columns, told) for _, _, _, rows, columns, told in sorted(keyed)]


def turns(game, prizes):
    """The ascending list of the ends of all spans."""
    check_game_and_prizes(game, prizes)
    ends = []
    for _, _, (least, _, greatest, _) in all_spans(game, prizes):
        ends.extend([end for end in (least, greatest) if end is not None])
    numbers, below = scaled(ends)
    return [ratio(number, below) for number in sorted(set(numbers))]


def pair_at(game, prizes, t, rows, columns):
    """A steady pair with just these lots in the game at t, None if there is none."""
    check_game_and_prizes(game, prizes)
    check_fraction(t)
    check_lot(game, 0, rows)
    check_lot(game, 1, columns)
    word, one, other = paper_of(game_at(game, prizes, t), rows, columns)
    return (one, other) if word == "pair" else None
