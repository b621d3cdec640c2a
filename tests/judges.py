"""What the tests judge answers by: worked out with Fraction, and by none of the package's own code."""

from fractions import Fraction
from functools import lru_cache
from itertools import combinations, permutations


def same(one, other):
    """Equal, and of the same kinds all through: True is not 1 here, and a list no tuple."""
    if type(one) is not type(other):
        return False
    if type(one) in (list, tuple):
        return len(one) == len(other) and all(same(a, b) for a, b in zip(one, other))
    if type(one) is dict:
        return one == other and all(same(one[key], other[key]) for key in one)
    return one is other or one == other


def lists_in(value):
    """All lists in a value, each as often as it stands there."""
    if type(value) not in (list, tuple):
        return []
    found = [value] if type(value) is list else []
    for part in value:
        found += lists_in(part)
    return found


def integers_in(value):
    """All integers in a value; of anything else that is no list, tuple, text or None it complains."""
    if type(value) in (list, tuple):
        return [number for part in value for number in integers_in(part)]
    if type(value) is int:
        return [value]
    if value is None or type(value) is str:
        return []
    raise AssertionError(f"{value!r} stands in an answer")


def few_figures(value):
    """Whether no integer in a value has more than 300 figures."""
    return all(abs(number) < 10 ** 300 for number in integers_in(value))


def part(above, below=1):
    """A fraction, as the package tells it."""
    told = Fraction(above, below)
    return (told.numerator, told.denominator)


def parts(*numbers):
    """The mix, or weights, with chances like the numbers."""
    return tuple(part(number, sum(numbers)) for number in numbers)


def worth(told):
    above, below = told
    return Fraction(above, below)


def worths(mix):
    return [worth(chance) for chance in mix]


def good_part(value):
    if type(value) is not tuple or len(value) != 2 or any(type(number) is not int for number in value):
        return False
    return value[1] >= 1 and value == part(*value)


def good_chances(value, many):
    """Whether a value is a tuple of so many fractions, none below nought, that come to 1."""
    if type(value) is not tuple or len(value) != many or not all(good_part(chance) for chance in value):
        return False
    return min(worths(value)) >= 0 and sum(worths(value)) == 1


def size(game, side):
    return len(game[0]) if side == 0 else len(game[0][0])


def number_at(game, side, own, theirs):
    """What a side gets by its own choice and the other side's."""
    return game[0][own][theirs] if side == 0 else game[1][theirs][own]


def taken(game, side, mix):
    """What a side gets by each of its choices against a mix of the other one."""
    against = list(enumerate(worths(mix)))
    return [sum(chance * number_at(game, side, own, theirs) for theirs, chance in against)
            for own in range(size(game, side))]


def got(game, side, pair):
    mine = worths(pair[side])
    return sum(chance * number for chance, number in zip(mine, taken(game, side, pair[1 - side])))


def best_of(game, side, mix):
    numbers = taken(game, side, mix)
    return tuple(at for at, number in enumerate(numbers) if number == max(numbers))


def height_of(game, side, mix):
    return max(taken(game, 1 - side, mix))


def lot_of(mix):
    return tuple(at for at, chance in enumerate(mix) if worth(chance) > 0)


def labels_of(game, side, mix):
    own = [(side, at) for at, chance in enumerate(mix) if worth(chance) == 0]
    return tuple(sorted(own + [(1 - side, at) for at in best_of(game, 1 - side, mix)]))


def steady(game, one, other):
    """Whether two mixes are a steady pair: neither side gets more by another choice alone."""
    pair = (one, other)
    return all(got(game, side, pair) == max(taken(game, side, pair[1 - side])) for side in (0, 1))


def pair_is_right(game, rows, columns, value):
    """Whether a value is a tuple of two mixes, steady, with just these lots."""
    if type(value) is not tuple or len(value) != 2:
        return False
    one, other = value
    if not good_chances(one, size(game, 0)) or not good_chances(other, size(game, 1)):
        return False
    return lot_of(one) == rows and lot_of(other) == columns and steady(game, one, other)


def bar_is_right(game, rows, columns, value):
    """Whether a value is ("bar", side, numbers) for these lots."""
    if type(value) is not tuple or len(value) != 3 or value[0] != "bar" or type(value[1]) is not int:
        return False
    side, numbers = value[1:]
    if side not in (0, 1) or type(numbers) is not tuple or len(numbers) != size(game, 1 - side):
        return False
    if any(type(number) is not int for number in numbers) or sum(numbers) != 0:
        return False
    lots = (rows, columns)
    if any(numbers[at] < 0 for at in range(len(numbers)) if at not in lots[1 - side]):
        return False
    sums = [sum(number * number_at(game, 1 - side, at, own) for at, number in enumerate(numbers))
            for own in lots[side]]
    return all(total >= 0 for total in sums) and any(total > 0 for total in sums)


def paper_is_right(game, rows, columns, value):
    """Whether a value is a right paper of two lots."""
    if type(value) is tuple and len(value) == 3 and value[0] == "pair":
        return pair_is_right(game, rows, columns, value[1:])
    return bar_is_right(game, rows, columns, value)


def lots(many):
    return [lot for length in range(1, many + 1) for lot in combinations(range(many), length)]


def rank(rows):
    """How many of the rows are independent."""
    rows = [[Fraction(number) for number in row] for row in rows]
    found = 0
    for column in range(len(rows[0])):
        lead = next((row for row in rows[found:] if row[column]), None)
        if lead is None:
            continue
        rows.remove(lead)
        rows = [[a - row[column] / lead[column] * b for a, b in zip(row, lead)] for row in rows]
        rows.insert(0, lead)
        # What stands before the place of the next lead is not looked at again.
        found += 1
    return found


def is_corner_of(game, side, mix):
    """Whether no stretch within the lot leaves all best choices against the mix alike."""
    lot = lot_of(mix)
    rows = [[1] * len(lot) + [0]]
    for at in best_of(game, 1 - side, mix):
        rows.append([number_at(game, 1 - side, at, own) for own in lot] + [-1])
    return rank(rows) == len(lot) + 1


def only_point(rows):
    """The one solution of as many equations as unknowns, None if there is not just one."""
    rows = [[Fraction(number) for number in row] for row in rows]
    for column in range(len(rows)):
        lead = next((row for row in rows[column:] if row[column]), None)
        if lead is None:
            return None
        at = [k for k, row in enumerate(rows) if row is lead][0]
        rows[at] = rows[column]
        lead = [number / lead[column] for number in lead]
        rows = [[a - row[column] * b for a, b in zip(row, lead)] for row in rows]
        rows[column] = lead
    return [row[-1] for row in rows]


def all_corners(game, side):
    """All corners of a side, ascending by worth."""
    return list(ends_of(game, side))


@lru_cache(maxsize=None)
def ends_of(game, side):
    """All ends of chances and height over them, without the height."""
    many, theirs = size(game, side), size(game, 1 - side)
    planes = [[1 if k == at else 0 for k in range(many)] + [0, 0] for at in range(many)]
    planes += [[number_at(game, 1 - side, at, own) for own in range(many)] + [-1, 0] for at in range(theirs)]
    found = []
    for chosen in combinations(planes, many):
        point = only_point([[1] * many + [0, 1], *chosen])
        if point is None or min(point[:many]) < 0 or point[:many] in found:
            continue
        mix = tuple(part(chance) for chance in point[:many])
        if height_of(game, side, mix) <= point[many]:
            found.append(point[:many])
    return tuple(tuple(part(chance) for chance in point) for point in sorted(found))


def mean(mixes, weights):
    """The mean of mixes by weights, as a list of Fractions."""
    return [sum(worth(weight) * worth(mix[at]) for mix, weight in zip(mixes, weights))
            for at in range(len(mixes[0]))]


def ascending(told):
    """Mixes, or tuples of mixes, or tuples of these, sorted by worth."""
    return sorted(told, key=worths_in)


def worths_in(told):
    """What has mixes in it, with a Fraction in the place of each of their fractions."""
    if type(told) is tuple and len(told) == 2 and type(told[0]) is int:
        return worth(told)
    return [worths_in(inner) for inner in told]


@lru_cache(maxsize=None)
def steady_ends(game):
    ones, others = all_corners(game, 0), all_corners(game, 1)
    return tuple((one, other) for one in ones for other in others if steady(game, one, other))


def steady_corners(game):
    """All steady pairs of corners, ascending by worth."""
    return list(steady_ends(game))


def all_blocks(game):
    """All blocks, ascending, from what each set of ones has in common; of games without too many ones."""
    near = {}
    for one, other in steady_corners(game):
        near.setdefault(one, set()).add(other)
    found = set()
    for length in range(1, len(near) + 1):
        for chosen in combinations(near, length):
            others = set.intersection(*[near[one] for one in chosen])
            ones = [one for one in near if others <= near[one]]
            if others:
                found.add((tuple(ascending(ones)), tuple(ascending(others))))
    return ascending(found)


def hanging(blocks):
    """The islands: from each block on to all that have a corner of each side in common."""
    islands = []
    for start in range(len(blocks)):
        reached = {start}
        for _ in blocks:
            reached |= {at for at, block in enumerate(blocks) for known in reached
                        if all(set(mine) & set(theirs) for mine, theirs in zip(block, blocks[known]))}
        if sorted(reached) not in islands:
            islands.append(sorted(reached))
    return sorted(islands)


def in_block(game, block, pair):
    """Whether each mix has all labels that the corners of a block's side have in common."""
    for side in (0, 1):
        shared = set.intersection(*[set(labels_of(game, side, corner)) for corner in block[side]])
        if not shared <= set(labels_of(game, side, pair[side])):
            return False
    return True


def determinant(rows):
    """The sum over all ways to take a number of each row and column."""
    total = 0
    for order in permutations(range(len(rows))):
        turns = sum(order[a] > order[b] for a, b in combinations(range(len(rows)), 2))
        product = -1 if turns % 2 else 1
        for row, column in zip(rows, order):
            product *= row[column]
        total += product
    return total


def sign_of(game, pair, lift=1001):
    """The sign of a steady pair of a game without ties."""
    rows, columns = lot_of(pair[0]), lot_of(pair[1])
    product = -1 if len(rows) % 2 == 0 else 1
    for table in game:
        product *= determinant([[table[row][column] + lift for column in columns] for row in rows])
    return 1 if product > 0 else -1


def tie_is_right(game, value):
    """Whether a value is (side, mix), a mix of that side against which more choices are best than its lot has."""
    if type(value) is not tuple or len(value) != 2 or type(value[0]) is not int or value[0] not in (0, 1):
        return False
    side, mix = value
    return good_chances(mix, size(game, side)) and len(best_of(game, 1 - side, mix)) > len(lot_of(mix))


def tied(game):
    """Whether a corner has more best choices against it than choices in its lot."""
    return any(len(best_of(game, 1 - side, mix)) > len(lot_of(mix))
               for side in (0, 1) for mix in all_corners(game, side))


# Of a changed game at one over this e little enough is told by games with integers of at most 1000.
FAR = 10 ** 60


def changed(game, changes):
    """The changed game at one over FAR, times FAR."""
    return tuple(tuple(tuple(FAR * number + more for number, more in zip(*rows)) for rows in zip(table, change))
                 for table, change in zip(game, changes))


def nearby(mix):
    """The mix of fractions of not too many figures that a mix of a changed game is nearest to."""
    return tuple(part(Fraction(*chance).limit_denominator(10 ** 25)) for chance in mix)


def coming_out(game, changes):
    """What comes out of a game by changes, None if they do not untie it."""
    near = changed(game, changes)
    if tied(near):
        return None
    found = []
    for pair in steady_corners(near):
        limits = tuple(nearby(mix) for mix in pair)
        found.append((lot_of(pair[0]), lot_of(pair[1]), sign_of(near, pair, 1001 * FAR), limits))
    return sorted(found)
