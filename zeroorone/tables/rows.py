"""Tables of any size without checks: rows are cleared column by column, in integers alone."""
from math import gcd

from zeroorone.paper.numbers import number_of, quotient, undone_modulo, whole_row
from zeroorone.paper.tables import product_rows, turned, unit_rows


def beside(one, other):
    """The rows of the first table, those of the second one behind them."""
    return [list(row) + list(further) for row, further in zip(one, other)]


def lowered(ground, row, upper, column, before):
    """The row with 0 in the column, by a multiple of the upper row, divided by the lead of the step before."""
    lead, low = upper[column], row[column]
    mixed = [lead * number - low * over for number, over in zip(row, upper)]
    if ground == 0:
        # All numbers are determinants here, so the division leaves no rest.
        return [number // before for number in mixed]
    back = undone_modulo(before, ground)
    return [number * back % ground for number in mixed]


def find_lead(rows, top, column):
    """The index of the first row from top on with a number other than 0 in the column; None if there is none."""
    for i in range(top, len(rows)):
        if rows[i][column] != 0:
            return i
    return None


def cleared(ground, rows, width):
    """(rows, leads, lead, sign) of rows of integers, cleared at the first `width` columns.

    The rows with leads come first; at each of these columns stands the same lead, and 0 in the other rows.
    The sign is -1 if rows were exchanged an odd number of times.
    """
    rows = [list(row) for row in rows]
    leads = []
    lead, sign = 1, 1
    for column in range(width):
        top = len(leads)
        found = find_lead(rows, top, column)
        if found is None:
            continue
        if found != top:
            rows[top], rows[found] = rows[found], rows[top]
            sign = -sign
        upper = rows[top]
        rows = [row if i == top else lowered(ground, row, upper, column, lead) for i, row in enumerate(rows)]
        lead = upper[column]
        leads.append(column)
    return (rows, tuple(leads), lead, sign)


def cleared_table(ground, table, width):
    """The same as `cleared`, for rows of numbers of the ground."""
    return cleared(ground, [whole_row(ground, row)[0] for row in table], width)


def numbers_over(ground, row, bottom):
    """The numbers of the ground that integers, divided by the bottom, stand for."""
    return tuple([quotient(ground, number, bottom) for number in row])


def undone_rows(ground, table):
    """The table whose products with the table are the unit table; None if there is none."""
    size = len(table)
    rows, leads, lead, _ = cleared_table(ground, beside(table, unit_rows(ground, size)), size)
    if len(leads) < size:
        return None
    return tuple([numbers_over(ground, row[size:], lead) for row in rows])


def kernel_rows(ground, table):
    """For each column without a lead the vector that is 1 there and 0 at the others, and that the table leads to 0."""
    width = len(table[0])
    rows, leads, lead, _ = cleared_table(ground, table, width)
    vectors = []
    for free in range(width):
        if free not in leads:
            vector = [number_of(ground, 0)] * width
            vector[free] = number_of(ground, 1)
            for row, column in zip(rows, leads):
                vector[column] = quotient(ground, -row[free], lead)
            vectors.append(tuple(vector))
    return tuple(vectors)


def rank_paper(ground, table):
    """The paper for the rank of the table; it tells as many rows as the rank."""
    columns = cleared_table(ground, table, len(table[0]))[1]
    if len(columns) == 0:
        return ((), (), (), tuple([() for _ in table]))
    rows = cleared_table(ground, turned(table), len(table))[1]
    part = tuple([tuple([table[i][j] for j in columns]) for i in rows])
    back = undone_rows(ground, part)
    sums = product_rows(ground, [[row[j] for j in columns] for row in table], back)
    return (rows, columns, back, sums)


def shortened(ground, row):
    """The integers, divided by what divides all of them; rests modulo a prime."""
    if ground != 0:
        return [number % ground for number in row]
    common = 0
    for number in row:
        common = gcd(common, number)
        if common == 1:
            return row
    return [number // common for number in row] if common > 1 else row


def put_to(ground, rungs, vector, bottom, width):
    """Put a vector of `width` integers over a bottom to others, the rungs, if it is no sum of multiples of them.

    Then None is returned. Otherwise it is a tuple of integers, one for each vector put to them so far, and one other
    than 0 for this one: so many times the vectors add up to 0.
    """
    row = list(vector) + [0] * (width + 1)
    row[width + len(rungs)] = bottom
    for lead, rung in rungs:
        low, upper = row[lead], rung[lead]
        if low != 0:
            row = shortened(ground, [upper * number - low * over for number, over in zip(row, rung)])
    for column in range(width):
        if row[column] != 0:
            rungs.append((column, row))
            return None
    return tuple(row[width:width + len(rungs) + 1])
