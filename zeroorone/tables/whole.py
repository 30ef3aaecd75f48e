"""Tables of integers: whole equations, stairs and steps (stage 4)."""
from zeroorone.errors import InvalidTable
from zeroorone.paper.numbers import bezout, dot, integer_dot, is_below, quotient
from zeroorone.paper.tables import rows_fit, turned
from zeroorone.paper.whole import find_first, parts_of_size, rows_are_stairs
from zeroorone.tables.rows import beside

MAX_WHOLE = 6
TWENTY_DIGITS = 10 ** 20


def are_integers(row, limit):
    """Whether all members are integers below the limit."""
    return all([is_below(number, limit) for number in row])


def check_whole_table(table):
    """Refuse what is no whole table of at most six rows and columns, of at most twenty digits."""
    if not rows_fit(table, MAX_WHOLE, MAX_WHOLE) or not all([are_integers(row, TWENTY_DIGITS) for row in table]):
        raise InvalidTable("no whole table")


def taken_off(row, often, upper):
    """The row less so many times the upper one."""
    return [number - often * over for number, over in zip(row, upper)]


def sunk_column(rows, top, column):
    """The rows, with at most one row from top on that is not 0 in the column; this one stands at top."""
    rows = list(rows)
    live = [i for i in range(top, len(rows)) if rows[i][column] != 0]
    while len(live) > 0:
        sizes = [(abs(rows[i][column]), i) for i in live]
        least = min(sizes)[1]
        rows[top], rows[least] = rows[least], rows[top]
        upper = rows[top]
        for i in range(top + 1, len(rows)):
            rows[i] = taken_off(rows[i], rows[i][column] // upper[column], upper)
        live = [i for i in range(top + 1, len(rows)) if rows[i][column] != 0]
        if len(live) > 0:
            live.append(top)
    return rows


def stepped(rows, width):
    """The rows of integers, made stairs at the first `width` columns, and how many of them are not 0 there."""
    rows = [list(row) for row in rows]
    top = 0
    for column in range(width):
        rows = sunk_column(rows, top, column)
        if top == len(rows) or rows[top][column] == 0:
            continue
        if rows[top][column] < 0:
            rows[top] = [-number for number in rows[top]]
        upper = rows[top]
        for i in range(top):
            rows[i] = taken_off(rows[i], rows[i][column] // upper[column], upper)
        top += 1
    return (rows, top)


def stairs_with_sums(table):
    """The stairs of the table, and for each of their rows the integers with which the table's rows make it."""
    width = len(table[0])
    units = [[1 if i == j else 0 for j in range(len(table))] for i in range(len(table))]
    rows, many = stepped(beside(table, units), width)
    return (tuple([tuple(row[:width]) for row in rows[:many]]), tuple([tuple(row[width:]) for row in rows[:many]]))


def stairs(table):
    """The stairs of the table."""
    check_whole_table(table)
    return stairs_with_sums(table)[0]


def is_stairs(value):
    """Whether the value is stairs, of any size and with integers of any length."""
    return rows_are_stairs(value)


def taken_by_stairs(rows, row):
    """(multiples, left): how often each of the stairs is taken off the row in turn, and what is left.

    The row is a sum of the stairs exactly if nothing is left: at each lead less than the lead is left.
    """
    left = list(row)
    multiples = []
    for upper in rows:
        lead = find_first(upper)
        multiples.append(left[lead] // upper[lead])
        left = taken_off(left, multiples[-1], upper)
    return (multiples, left)


def barring_vector(rows, left):
    """The fractions by which all stairs come to something whole, and what is left does not."""
    place = find_first(left)
    vector = [(0, 1)] * len(left)
    leads = [row[place] for row in rows if find_first(row) == place]
    vector[place] = quotient(0, 1, leads[0] if leads else 2 * left[place])
    ahead = [row for row in rows if find_first(row) < place]
    for row in reversed(ahead):
        lead = find_first(row)
        top, bottom = dot(0, [(number, 1) for number in row], vector)
        vector[lead] = quotient(0, -top, bottom * row[lead])
    return tuple(vector)


def whole_answer(table, vector):
    """The claim that the equations have whole solutions, or never have, and a paper."""
    check_whole_table(table)
    if not isinstance(vector, tuple) or len(vector) != len(table) or not are_integers(vector, TWENTY_DIGITS):
        raise InvalidTable("no vector for the rows of the table")
    rows, sums = stairs_with_sums(turned(table))
    multiples, left = taken_by_stairs(rows, vector)
    if any(left):
        return (("never whole", table, vector), barring_vector(rows, left))
    solution = [integer_dot(multiples, [line[j] for line in sums]) for j in range(len(table[0]))]
    return (("whole", table, vector), tuple(solution))


def stairs_answer(table):
    """The claim about the stairs of the table, and a paper."""
    check_whole_table(table)
    rows, up = stairs_with_sums(table)
    down = tuple([tuple(taken_by_stairs(rows, row)[0]) for row in table])
    return (("stairs", table, rows), (up, down))


def all_parts(table):
    """For each size from 1 to the rank the determinants of all parts, by their rows and columns."""
    levels = []
    parts = {((), ()): 1}
    for size in range(1, 1 + min(len(table), len(table[0]))):
        parts = parts_of_size(table, size, parts)
        if not any(list(parts.values())):
            return levels
        levels.append(parts)
    return levels


def weighted_divisor(parts):
    """The common divisor of the determinants, and the triples of rows, columns and weights that make it."""
    common = 0
    triples = []
    for rows, columns in parts:
        value = parts[(rows, columns)]
        # What the divisor divides already would only make the weights longer.
        if value == 0 or common != 0 and value % common == 0:
            continue
        common, often, weight = bezout(common, value)
        triples = [(upper, side, often * before) for upper, side, before in triples]
        triples.append((rows, columns, weight))
    return (common, tuple([triple for triple in triples if triple[2] != 0]))


def steps_with_paper(table):
    """The steps of the table, and a paper for them."""
    before = 1
    found, papers = [], []
    for parts in all_parts(table):
        common, triples = weighted_divisor(parts)
        found.append(common // before)
        papers.append(triples)
        before = common
    return (tuple(found), tuple(papers))


def steps(table):
    """The steps of the table."""
    check_whole_table(table)
    return steps_with_paper(table)[0]


def steps_answer(table):
    """The claim about the steps of the table, and a paper."""
    check_whole_table(table)
    found, papers = steps_with_paper(table)
    return (("steps", table, found), papers)
