"""Linear equations over integers: every row keeps integers, over one below that all rows share."""


def pivoted(rows, at, column, below):
    """Rows, told over a below, after the step that leaves a column to one row alone.

    The new below is the number of that row in that column, and every division comes out even.
    """
    lead = rows[at]
    pivot = lead[column]
    new_rows = []
    for place, row in enumerate(rows):
        if place == at:
            new_rows.append(lead)
        else:
            share = row[column]
            new_rows.append([(number * pivot - share * first) // below for number, first in zip(row, lead)])
    return new_rows


def with_lead(rows, column):
    """Rows with one that has more than nought in the column in the column's place, None if there is none."""
    for at in range(column, len(rows)):
        if rows[at][column] != 0:
            sign = 1 if rows[at][column] > 0 else -1
            lead = [sign * number for number in rows[at]]
            rest = rows[:at] + rows[at + 1:]
            return rest[:column] + [lead] + rest[column:]
    return None


def only_solution(rows, many):
    """The one solution of equations in so many unknowns: (numbers, below), None if there is not just one.

    Each row has the factors of the unknowns, and what they come to behind them.
    """
    below = 1
    for column in range(many):
        rows = with_lead(rows, column)
        if rows is None:
            return None
        rows = pivoted(rows, column, column, below)
        below = rows[column][column]
    if any([row[many] != 0 for row in rows[many:]]):
        return None
    return [row[many] for row in rows[:many]], below


def determinant(rows):
    """The determinant of as many rows as columns."""
    if not rows:
        return 1
    total = 0
    for at, number in enumerate(rows[0]):
        rest = determinant([row[:at] + row[at + 1:] for row in rows[1:]])
        total += rest * number if at % 2 == 0 else -rest * number
    return total


def opening(rows, wanted, many, signs):
    """The rows to begin with: a spare unknown in each, and the cost of all spares in the last row."""
    table = []
    for at, row in enumerate(rows):
        spares = [1 if place == at else 0 for place in range(len(rows))]
        table.append([signs[at] * number for number in row] + spares + [signs[at] * wanted[at]])
    costs = [-sum([row[column] for row in table]) for column in range(many)]
    return table + [costs + [0] * len(rows) + [-sum([row[-1] for row in table])]]


def entering(costs, many):
    """The first unknown that lessens the cost, None if none does."""
    for column in range(many):
        if costs[column] < 0:
            return column
    return None


def leaving(table, basis, column):
    """The row that first comes to nought as an unknown grows, of equal ones that of the first unknown."""
    found = None
    for at, holder in enumerate(basis):
        row = table[at]
        if row[column] <= 0:
            continue
        if found is None:
            found = at
            continue
        best = table[found]
        mine, theirs = row[-1] * best[column], best[-1] * row[column]
        if mine < theirs or mine == theirs and holder < basis[found]:
            found = at
    return found


def point_or_wall(rows, wanted, many):
    """Numbers, none below nought, by which so many columns come to what is wanted, or a wall.

    Tells (True, numbers, below) with a number for each column, all over below; or, if there are
    none, (False, numbers, below) with a number for each row: the sum of the rows, each times its
    number, is nought or more in each column, and less than nought in what is wanted.
    The first unknown is always taken where there is a choice: so it comes to an end (Bland's rule).
    """
    signs = [-1 if number < 0 else 1 for number in wanted]
    table = opening(rows, wanted, many, signs)
    basis = [many + at for at in range(len(rows))]
    below = 1
    while table[-1][-1] < 0:
        column = entering(table[-1], many)
        if column is None:
            spares = table[-1][many:-1]
            return False, [sign * (cost - below) for sign, cost in zip(signs, spares)], below
        at = leaving(table, basis, column)
        table = pivoted(table, at, column, below)
        below = table[at][column]
        basis[at] = column
    numbers = [0] * many
    for holder, row in zip(basis, table):
        if holder < many:
            numbers[holder] = row[-1]
    return True, numbers, below
