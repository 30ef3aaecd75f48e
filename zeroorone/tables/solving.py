"""Tables over a ground: reduced rows, determinants, equations and ranks (stage 3)."""
from zeroorone.base.plain import check_between, check_ground
from zeroorone.errors import InvalidOperation, InvalidTable, Refused
from zeroorone.paper.numbers import number_of, quotient, vector_fits, whole_row
from zeroorone.paper.tables import product_rows, table_fits, turned, unit_rows
from zeroorone.tables.rows import beside, cleared, cleared_table, kernel_rows, numbers_over, rank_paper, undone_rows

MAX_SIDE = 12
TWENTY_DIGITS = 10 ** 20


def is_table(ground, value):
    """Whether the value is a table of the ground with 1 to 12 rows and columns, of at most twenty digits."""
    check_ground(ground)
    return table_fits(ground, value, MAX_SIDE, MAX_SIDE, TWENTY_DIGITS)


def check_table(ground, table):
    """Refuse a wrong ground, and then what is no table of it."""
    if not is_table(ground, table):
        raise InvalidTable("no table of the ground")


def unit_table(ground, size):
    """The table of `size` rows with 1 at the places (i, i) and 0 elsewhere."""
    check_ground(ground)
    check_between(size, 1, MAX_SIDE)
    return unit_rows(ground, size)


def table_product(ground, one, other):
    """The product of two tables."""
    check_table(ground, one)
    check_table(ground, other)
    if len(one[0]) != len(other):
        raise InvalidOperation("no product of tables of these sizes")
    return product_rows(ground, one, other)


def reduced_rows(ground, table):
    """The reduced rows of the table."""
    check_table(ground, table)
    rows, found, lead, _ = cleared_table(ground, table, len(table[0]))
    return tuple([numbers_over(ground, row, lead) for row in rows[:len(found)]])


def leads(ground, table):
    """The columns of the leads of the reduced rows, ascending."""
    check_table(ground, table)
    return cleared_table(ground, table, len(table[0]))[1]


def rank(ground, table):
    """How many leads there are."""
    return len(leads(ground, table))


def kernel(ground, table):
    """The vectors, one for each column without a lead, of which all that the table leads to 0 is a sum."""
    check_table(ground, table)
    return kernel_rows(ground, table)


def check_square(ground, table):
    """Refuse what is no table, and then a table with unlike numbers of rows and columns."""
    check_table(ground, table)
    if len(table) != len(table[0]):
        raise InvalidOperation("not as many rows as columns")


def determinant(ground, table):
    """The determinant of a table with as many rows as columns."""
    check_square(ground, table)
    pairs = [whole_row(ground, row) for row in table]
    _, found, lead, sign = cleared(ground, [row for row, _ in pairs], len(table))
    if len(found) < len(table):
        return number_of(ground, 0)
    bottom = 1
    for _, down in pairs:
        bottom = bottom * down
    return quotient(ground, sign * lead, bottom)


def undoing(ground, table):
    """The table whose products with the table, both ways round, are the unit table."""
    check_square(ground, table)
    undone = undone_rows(ground, table)
    if undone is None:
        raise Refused(("flat",))
    return undone


def solution(ground, width, found, rows, lead):
    """The vector with 0 at all columns without a lead, and at the others what stands behind the table."""
    vector = [number_of(ground, 0)] * width
    for row, column in zip(rows, found):
        vector[column] = quotient(ground, row[width], lead)
    return tuple(vector)


def solve_answer(ground, table, vector):
    """The claim that the equations are solved, or barred, and a paper."""
    check_table(ground, table)
    if not vector_fits(ground, vector, len(table), TWENTY_DIGITS):
        raise InvalidTable("no vector for the rows of the table")
    width = len(table[0])
    joined = beside(beside(table, turned((vector,))), unit_rows(ground, len(table)))
    rows, found, lead, _ = cleared_table(ground, joined, width)
    for row in rows[len(found):]:
        if row[width] != 0:
            return (("barred", ground, table, vector), numbers_over(ground, row[width + 1:], row[width]))
    return (("solved", ground, table, vector), solution(ground, width, found, rows, lead))


def rank_answer(ground, table):
    """The claim about the rank of the table, and a paper."""
    check_table(ground, table)
    paper = rank_paper(ground, table)
    return (("rank", ground, table, len(paper[0])), paper)
