"""Tables of any size, without checks, and the claims and papers about equations and wishes (stages 3 and 5).

In the functions that judge papers table, vector and goal are those of the claim.
"""
from zeroorone.paper.numbers import are_indices, dot, ground_fits, integer_dot, is_between, is_row, is_zero, number_fits
from zeroorone.paper.numbers import number_of, opposite, quotient, sign_of_difference, vector_fits, whole_row


def length_fits(value, most):
    """Whether the value is a tuple of at least one member, and of at most so many, if that is not None."""
    return isinstance(value, tuple) and len(value) >= 1 and (most is None or len(value) <= most)


def rows_fit(value, most_rows, most_columns):
    """Whether the value is a tuple of equally long tuples, with these limits for both."""
    if not length_fits(value, most_rows) or not all([length_fits(row, most_columns) for row in value]):
        return False
    return len({len(row) for row in value}) == 1


def table_fits(ground, value, most_rows, most_columns, limit):
    """Whether the value is a table of the ground of at most so many rows and columns, below the limit."""
    if not rows_fit(value, most_rows, most_columns):
        return False
    return all([vector_fits(ground, row, len(row), limit) for row in value])


def square_fits(ground, value, many):
    """Whether the value is a table with so many rows and columns; () is one with none."""
    return is_row(value, many) and all([vector_fits(ground, row, many, None) for row in value])


def turned(table):
    """The table with rows and columns exchanged."""
    return tuple([tuple([row[column] for row in table]) for column in range(len(table[0]))])


def unit_rows(ground, size):
    """The unit table."""
    one, zero = number_of(ground, 1), number_of(ground, 0)
    return tuple([tuple([one if i == j else zero for j in range(size)]) for i in range(size)])


def product_rows(ground, one, other):
    """The product of two tables that fit."""
    left = [whole_row(ground, row) for row in one]
    right = [whole_row(ground, column) for column in turned(other)]
    return tuple([
        tuple([quotient(ground, integer_dot(row, column), bottom * below) for column, below in right])
        for row, bottom in left
    ])


def led_vector(ground, table, vector):
    """A x, the vector being x."""
    return product_rows(ground, table, turned((vector,)))


def equations_fit(ground, table, vector):
    """Whether the claim that equations are solved, or barred, is well made."""
    if not ground_fits(ground) or not table_fits(ground, table, None, None, None):
        return False
    return vector_fits(ground, vector, len(table), None)


def shows_solved(paper, ground, table, vector):
    """Whether the paper solves the equations."""
    if not vector_fits(ground, paper, len(table[0]), None):
        return False
    return led_vector(ground, table, paper) == turned((vector,))


def shows_barred(paper, ground, table, vector):
    """Whether the rows, so many times, add up to 0, and what they are to be does to 1."""
    if not vector_fits(ground, paper, len(table), None):
        return False
    sums = product_rows(ground, (paper,), table)[0]
    return all([is_zero(ground, number) for number in sums]) and dot(ground, paper, vector) == number_of(ground, 1)


def rank_fits(ground, table, many):
    """Whether the claim about a rank is well made."""
    return ground_fits(ground) and table_fits(ground, table, None, None, None) and is_between(many, 0, None)


def shows_rank(paper, ground, table, many):
    """Whether a part of the table with so many rows can be undone, and its rows make all others."""
    if not is_row(paper, 4):
        return False
    rows, columns, back, sums = paper
    if not are_indices(rows, many, len(table)) or not are_indices(columns, many, len(table[0])):
        return False
    if not square_fits(ground, back, many) or not is_row(sums, len(table)):
        return False
    if not all([vector_fits(ground, row, many, None) for row in sums]):
        return False
    if many == 0:
        return all([is_zero(ground, number) for row in table for number in row])
    part = tuple([tuple([table[i][j] for j in columns]) for i in rows])
    if product_rows(ground, back, part) != unit_rows(ground, many):
        return False
    return product_rows(ground, sums, tuple([table[i] for i in rows])) == table


def slacks_of(table, goal, vector):
    """The signs of A x less b, the vector being x."""
    return [sign_of_difference(dot(0, row, vector), bound) for row, bound in zip(table, goal)]


def is_weight(value, many):
    """Whether the value is a vector of so many fractions of at least 0."""
    return vector_fits(0, value, many, None) and all([number[0] >= 0 for number in value])


def wishes_fit(table, goal):
    """Whether the claim that wishes are reached, or never are, is well made."""
    return table_fits(0, table, None, None, None) and vector_fits(0, goal, len(table), None)


def shows_reached(paper, table, goal):
    """Whether the vector reaches the goal."""
    return vector_fits(0, paper, len(table[0]), None) and min(slacks_of(table, goal, paper)) >= 0


def shows_never_reached(paper, table, goal):
    """Whether the weight shows that no vector reaches the goal."""
    return is_weight(paper, len(table)) and shows_barred(paper, 0, table, goal)


def wish_fits(table, goal, wish):
    """Whether the claim that there is no greatest value is well made."""
    return wishes_fit(table, goal) and vector_fits(0, wish, len(table[0]), None)


def bound_fits(table, goal, wish, bound):
    """Whether a claim about a wish and a bound is well made."""
    return wish_fits(table, goal, wish) and number_fits(0, bound, None)


def shows_greatest(paper, table, goal, wish, bound):
    """Whether a vector reaches with the bound as its value, and a weight shows that it is the greatest one."""
    if not is_row(paper, 2) or not shows_reached(paper[0], table, goal) or not is_weight(paper[1], len(table)):
        return False
    if dot(0, wish, paper[0]) != bound or dot(0, paper[1], goal) != opposite(0, bound):
        return False
    return product_rows(0, (paper[1],), table)[0] == tuple([opposite(0, number) for number in wish])


def shows_no_greatest(paper, table, goal, wish):
    """Whether a vector reaches, and a way on leads as high as one likes."""
    if not is_row(paper, 2) or not shows_reached(paper[0], table, goal):
        return False
    flat = tuple([(0, 1) for _ in table])
    return shows_reached(paper[1], table, flat) and dot(0, wish, paper[1]) == (1, 1)


def shows_follows(paper, table, goal, wish, bound):
    """Whether a weight makes the wish of the others, or shows that nothing reaches."""
    if not is_row(paper, 2) or not isinstance(paper[0], str):
        return False
    if paper[0] == "never":
        return shows_never_reached(paper[1], table, goal)
    if paper[0] != "sum" or not is_weight(paper[1], len(table)):
        return False
    return product_rows(0, (paper[1],), table)[0] == wish and sign_of_difference(dot(0, paper[1], goal), bound) >= 0


def shows_escapes(paper, table, goal, wish, bound):
    """Whether a vector reaches with a value below the bound."""
    return shows_reached(paper, table, goal) and sign_of_difference(dot(0, wish, paper), bound) == -1


# The number of members behind the kind, whether they fit, and whether a paper shows the claim.
TABLE_KINDS = {
    "solved": (3, equations_fit, shows_solved),
    "barred": (3, equations_fit, shows_barred),
    "rank": (3, rank_fits, shows_rank),
    "reached": (2, wishes_fit, shows_reached),
    "never reached": (2, wishes_fit, shows_never_reached),
    "greatest": (4, bound_fits, shows_greatest),
    "no greatest": (3, wish_fits, shows_no_greatest),
    "follows": (4, bound_fits, shows_follows),
    "escapes": (4, bound_fits, shows_escapes),
}
