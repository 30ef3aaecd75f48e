"""Traces of forms, changes of tables, and the claims and papers about how many points there are (stage 15).

Inside, a vector is a pair of its integers and of one bottom above 0 for all of them; a table is one of its rows.
"""
from math import gcd

from zeroorone.paper.bases import form_is_told, gens_fit
from zeroorone.paper.finite import shows_tables, tables_fit
from zeroorone.paper.numbers import common_multiple, integer_dot, is_int, is_row, whole_row
from zeroorone.paper.tables import product_rows, square_fits, unit_rows


def settled_vector(numbers, bottom):
    """The inner vector of integers over a bottom above 0, as short as it can be."""
    common = bottom
    for number in numbers:
        common = gcd(common, number)
    return ([number // common for number in numbers], bottom // common)


def opened_table(table):
    """The inner table of a table."""
    pairs = [whole_row(0, row) for row in table]
    bottom = common_multiple([below for _, below in pairs])
    return ([[number * (bottom // below) for number in row] for row, below in pairs], bottom)


def led_by(table, vector):
    """The inner vector A x, of an inner table and an inner vector."""
    return settled_vector([integer_dot(row, vector[0]) for row in table[0]], table[1] * vector[1])


def sum_of_vectors(one, other):
    """The sum of two inner vectors."""
    bottom = common_multiple([one[1], other[1]])
    up, down = bottom // one[1], bottom // other[1]
    return settled_vector([up * x + down * y for x, y in zip(one[0], other[0])], bottom)


def product_table(one, other):
    """The product of two inner tables; the rows of the first one are mostly 0."""
    rows = []
    for row in one[0]:
        made = [0] * len(row)
        for number, further in zip(row, other[0]):
            if number != 0:
                made = [x + number * y for x, y in zip(made, further)]
        rows.append(made)
    flat, bottom = settled_vector([number for row in rows for number in row], one[1] * other[1])
    many = len(rows)
    return ([flat[at * many:(at + 1) * many] for at in range(many)], bottom)


def lower_key(key):
    """(letter, lower): the first letter of a standing product other than 1, and the product without it once."""
    letter = [index for index, exponent in enumerate(key) if exponent > 0][0]
    return (letter, key[:letter] + (key[letter] - 1,) + key[letter + 1:])


def traces(products, letters):
    """The inner vector of the traces of all standing products, the inner tables of the letters being told."""
    known = {}
    found = []
    for key in products:
        if sum(key) == 0:
            many = len(products)
            known[key] = ([[1 if i == j else 0 for j in range(many)] for i in range(many)], 1)
        else:
            letter, lower = lower_key(key)
            known[key] = product_table(letters[letter], known[lower])
        rows, bottom = known[key]
        found.append((sum([rows[at][at] for at in range(len(rows))]), bottom))
    bottom = common_multiple([below for _, below in found])
    return settled_vector([top * (bottom // below) for top, below in found], bottom)


def led_by_form(form, letters, vector):
    """The inner vector that comes if the table of a form, made of those of its letters, leads an inner vector."""
    if not letters:
        top, bottom = form[()]
        return settled_vector([top * number for number in vector[0]], bottom * vector[1])
    rows = {}
    for key in form:
        rows.setdefault(key[0], {})[key[1:]] = form[key]
    exponents = sorted(rows, reverse=True)
    result = ([0] * len(vector[0]), 1)
    for exponent, lower in zip(exponents, exponents[1:] + [0]):
        result = sum_of_vectors(result, led_by_form(rows[exponent], letters[1:], vector))
        for _ in range(exponent - lower):
            result = led_by(letters[0], result)
    return result


def trace_columns(products, letters, vector):
    """The columns of the trace table of a form, the inner vector of its traces with all standing products told."""
    known = {}
    for key in products:
        if sum(key) == 0:
            known[key] = vector
        else:
            letter, lower = lower_key(key)
            known[key] = led_by(letters[letter], known[lower])
    return [known[key] for key in products]


def whole_columns(columns):
    """(rows, bottom): the inner table with these inner vectors as columns, which is equal to itself turned."""
    bottom = common_multiple([below for _, below in columns])
    return ([[number * (bottom // below) for number in numbers] for numbers, below in columns], bottom)


def changed_signs(change, rows):
    """The signs that a change shows of a table of integers; None if it is no change.

    The signs of rows, times numbers above 0, are the same.
    """
    steps = [whole_row(0, row)[0] for row in change]
    more, less = 0, 0
    for i, step in enumerate(steps):
        made = [integer_dot(step, column) for column in rows]
        for j, further in enumerate(steps):
            number = integer_dot(made, further)
            if i != j and number != 0:
                return None
            if i == j:
                more += 1 if number > 0 else 0
                less += 1 if number < 0 else 0
    return (more, less)


def shown_signs(change, undoing, rows):
    """The signs that a change with its undoing shows of a table of integers; None if it shows none."""
    many = len(rows)
    if not square_fits(0, change, many) or not square_fits(0, undoing, many):
        return None
    if many > 0 and product_rows(0, change, undoing) != unit_rows(0, many):
        return None
    return changed_signs(change, rows)


def count_fits(size, forms, many):
    """Whether the claim how many points there are is well made."""
    return gens_fit(0, size, forms) and is_int(many)


def are_tables_shown(paper, size, forms):
    """Whether a paper with five members begins with tables and a paper for them."""
    if not is_row(paper, 5) or not tables_fit(0, size, forms, paper[0], paper[1]):
        return False
    return shows_tables(paper[2], 0, size, forms, paper[0], paper[1])


def counted(paper, size, forms):
    """The signs that a paper shows of the trace table of 1; None if it shows none."""
    if not are_tables_shown(paper, size, forms):
        return None
    products, letters = paper[0], [opened_table(table) for table in paper[1]]
    columns = trace_columns(products, letters, traces(products, letters))
    return shown_signs(paper[3], paper[4], whole_columns(columns)[0])


def shows_complex_points(paper, size, forms, many):
    """Whether there are so many complex points."""
    signs = counted(paper, size, forms)
    return signs is not None and signs[0] + signs[1] == many


def shows_real_points(paper, size, forms, many):
    """Whether there are so many real points."""
    signs = counted(paper, size, forms)
    return signs is not None and signs[0] - signs[1] == many


def signed_fits(size, forms, form, above, below):
    """Whether the claim about the signs of a form at the real points is well made."""
    return gens_fit(0, size, forms) and form_is_told(0, size, form) and is_int(above) and is_int(below)


def shows_signed_points(paper, size, forms, form, above, below):
    """Whether the form is above 0 at so many real points, and below 0 at so many."""
    if not are_tables_shown(paper, size, forms) or not is_row(paper[3], 2) or not is_row(paper[4], 2):
        return False
    products, letters = paper[0], [opened_table(table) for table in paper[1]]
    once = led_by_form(form, letters, traces(products, letters))
    twice = led_by_form(form, letters, once)
    signs, squares = [
        shown_signs(pair[0], pair[1], whole_columns(trace_columns(products, letters, vector))[0])
        for pair, vector in ((paper[3], once), (paper[4], twice))
    ]
    if signs is None or squares is None:
        return False
    total, difference = squares[0] - squares[1], signs[0] - signs[1]
    return total + difference == 2 * above and total - difference == 2 * below


COUNT_KINDS = {
    "complex points": (3, count_fits, shows_complex_points),
    "real points": (3, count_fits, shows_real_points),
    "signed points": (5, signed_fits, shows_signed_points),
}
