"""How many points finite forms have, by the signs of trace tables (stage 15)."""
from math import gcd

from zeroorone.base.plain import SIXTY_DIGITS
from zeroorone.errors import InvalidTable
from zeroorone.many.bases import rows_by
from zeroorone.many.terms import check_form
from zeroorone.paper.counts import changed_signs, led_by_form, opened_table, trace_columns, traces, whole_columns
from zeroorone.paper.forms import all_ordered, letters_of, ordered
from zeroorone.paper.numbers import integer_dot, is_row, quotient
from zeroorone.paper.tables import square_fits, table_fits, turned
from zeroorone.points.stairs import check_question, finite_keys, table_rows, tables_answer
from zeroorone.tables.rows import undone_rows

MOST_ROWS = 12


def finite_rows(size, forms):
    """The frame, the rows of the basis by "deg" and the packed standing products; endless forms are refused."""
    frame, rows = rows_by(0, size, "deg", forms)
    return (frame, rows, finite_keys(frame, rows))


def trace_of(size, forms, form):
    """The trace of a form."""
    check_question(0, size, forms)
    check_form(0, size, form)
    frame, rows, keys = finite_rows(size, forms)
    table = table_rows(frame, rows, keys, frame.opened(form))
    inner, bottom = opened_table(table)
    return quotient(0, sum([row[at] for at, row in enumerate(inner)]), bottom)


def trace_table(size, forms, form):
    """The trace table of a form."""
    check_question(0, size, forms)
    check_form(0, size, form)
    frame, rows, keys = finite_rows(size, forms)
    letters = [opened_table(table_rows(frame, rows, keys, ({letter: 1}, 1))) for letter in letters_of(frame)]
    products = [frame.unpacked(key) for key in keys]
    vector = led_by_form(form, letters, traces(products, letters))
    inner, bottom = whole_columns(trace_columns(products, letters, vector))
    return tuple([tuple([quotient(0, number, bottom) for number in row]) for row in inner])


def row_divisor(row):
    """The greatest common divisor of the integers of a row."""
    common = 0
    for number in row:
        common = gcd(common, number)
    return common


class Change:
    """The rows of a change of a table of integers that is equal to itself turned, on the way.

    Beside each row stand what the table leads it to, and its dual: the product of both is not 0, and that of the dual
    and of any other row is 0, but for rows that are taken out already.
    """

    def __init__(self, table):
        many = len(table)
        self.many = many
        self.steps = [[1 if i == j else 0 for j in range(many)] for i in range(many)]
        self.led = [list(row) for row in table]
        self.duals = [list(row) for row in self.steps]

    def worth(self, i, j):
        """The sum of the products of a row and of what the table leads another one to."""
        return integer_dot(self.steps[i], self.led[j])

    def exchange(self, i, j):
        """Exchange two rows."""
        self.steps[i], self.steps[j] = self.steps[j], self.steps[i]
        self.led[i], self.led[j] = self.led[j], self.led[i]
        self.duals[i], self.duals[j] = self.duals[j], self.duals[i]

    def join_rows(self, i, j):
        """Put the row j to the row i."""
        here, there = integer_dot(self.steps[i], self.duals[i]), integer_dot(self.steps[j], self.duals[j])
        self.duals[j] = [here * x - there * y for x, y in zip(self.duals[j], self.duals[i])]
        self.steps[i] = [x + y for x, y in zip(self.steps[i], self.steps[j])]
        self.led[i] = [x + y for x, y in zip(self.led[i], self.led[j])]

    def bring(self, at):
        """Bring a row with a value other than 0 by itself to the place `at`; whether there is one."""
        for i in range(at, self.many):
            if self.worth(i, i) != 0:
                self.exchange(at, i)
                return True
        for i in range(at, self.many):
            for j in range(i + 1, self.many):
                if self.worth(i, j) != 0:
                    self.join_rows(i, j)
                    self.exchange(at, i)
                    return True
        return False

    def take_out(self, at):
        """Take the row at this place out of the later ones, so that its values with them are 0."""
        head = self.worth(at, at)
        for i in range(at + 1, self.many):
            low = self.worth(at, i)
            if low != 0:
                row = [head * x - low * y for x, y in zip(self.steps[i], self.steps[at])]
                led = [head * x - low * y for x, y in zip(self.led[i], self.led[at])]
                # What divides a row divides what the table leads it to.
                common = row_divisor(row)
                self.steps[i] = [number // common for number in row]
                self.led[i] = [number // common for number in led]


def changed(rows):
    """(change, undoing) of a table of integers, equal to itself turned."""
    work = Change(rows)
    rank = 0
    while rank < work.many and work.bring(rank):
        work.take_out(rank)
        rank += 1
    undoing = []
    for at, step in enumerate(work.steps):
        # The product of this column and of the row is 1, with all other rows it is 0.
        column = work.led[at] if at < rank else work.duals[at]
        bottom = integer_dot(step, column)
        undoing.append([quotient(0, number, bottom) for number in column])
    if len(rows) == 0:
        return ((), ())
    return (tuple([tuple([(number, 1) for number in step]) for step in work.steps]), turned(undoing))


def check_even(table):
    """Refuse what is no table of at most twelve rows, equal to itself with rows and columns exchanged."""
    if is_row(table, 0):
        return
    if not table_fits(0, table, MOST_ROWS, MOST_ROWS, SIXTY_DIGITS) or turned(table) != table:
        raise InvalidTable("no table that is equal to itself turned")


def signs_of(table):
    """The signs of the table."""
    check_even(table)
    rows = opened_table(table)[0]
    return changed_signs(changed(rows)[0], rows)


def change_of(table):
    """A change of the table, and what undoes it."""
    check_even(table)
    return changed(opened_table(table)[0])


def is_change(table, value):
    """Whether the value is a change of the table."""
    check_even(table)
    if not square_fits(0, value, len(table)):
        return False
    if len(table) > 0 and undone_rows(0, value) is None:
        return False
    return changed_signs(value, opened_table(table)[0]) is not None


def traced(size, forms):
    """(start, products, letters, vector): the first three members of a paper, and what trace tables are made of."""
    claim, paper = tables_answer(0, size, forms)
    products, tables = claim[4], claim[5]
    letters = [opened_table(table) for table in tables]
    return ((products, tables, paper), products, letters, traces(products, letters))


def signs_with_change(products, letters, vector):
    """(signs, pair): the signs of the trace table with these traces, and a change of it with its undoing."""
    rows = whole_columns(trace_columns(products, letters, vector))[0]
    pair = changed(rows)
    return (changed_signs(pair[0], rows), pair)


def counted(size, forms):
    """(signs, paper): the signs of the trace table of 1, and a paper for them."""
    start, products, letters, vector = traced(size, forms)
    signs, pair = signs_with_change(products, letters, vector)
    return (signs, start + pair)


def complex_answer(size, forms):
    """The claim how many complex points there are, and a paper."""
    check_question(0, size, forms)
    signs, paper = counted(size, forms)
    return (("complex points", size, all_ordered(forms), signs[0] + signs[1]), paper)


def real_answer(size, forms):
    """The claim how many real points there are, and a paper."""
    check_question(0, size, forms)
    signs, paper = counted(size, forms)
    return (("real points", size, all_ordered(forms), signs[0] - signs[1]), paper)


def signed_answer(size, forms, form):
    """The claim at how many real points the form is above 0 and below 0, and a paper."""
    check_question(0, size, forms)
    check_form(0, size, form)
    start, products, letters, vector = traced(size, forms)
    once = led_by_form(form, letters, vector)
    (more, less), first = signs_with_change(products, letters, once)
    (upper, lower), second = signs_with_change(products, letters, led_by_form(form, letters, once))
    total, difference = upper - lower, more - less
    counts = ((total + difference) // 2, (total - difference) // 2)
    return (("signed points", size, all_ordered(forms), ordered(form)) + counts, start + (first, second))
