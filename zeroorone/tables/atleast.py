"""Wishes that sums be at least some fractions: reached or never, greatest values, bad lots (stage 5)."""
from itertools import combinations

from zeroorone.base.plain import SIXTY_DIGITS, check_number, minus, plus
from zeroorone.errors import InvalidTable, TooMany
from zeroorone.paper.numbers import dot, integer_dot, opposite, quotient, sign_of_difference, times, vector_fits
from zeroorone.paper.numbers import whole_row
from zeroorone.paper.tables import shows_never_reached, shows_reached, table_fits

MOST_WISHES = 10
MOST_LETTERS = 6
MOST_TRIED = 6

ZERO = (0, 1)
ONE = (1, 1)


def check_fit(table, goal):
    """Refuse what is no table of at most ten wishes in six letters, and then what is no goal for it."""
    if not table_fits(0, table, MOST_WISHES, MOST_LETTERS, SIXTY_DIGITS):
        raise InvalidTable("no table of wishes")
    if not vector_fits(0, goal, len(table), SIXTY_DIGITS):
        raise InvalidTable("no goal for the rows of the table")


def check_letters(table, vector):
    """Refuse what has not a fraction for each letter."""
    if not vector_fits(0, vector, len(table[0]), SIXTY_DIGITS):
        raise InvalidTable("no vector for the columns of the table")


def slacks(table, goal, vector):
    """The vector A x less b."""
    check_fit(table, goal)
    check_letters(table, vector)
    return tuple([minus(0, dot(0, row, vector), bound) for row, bound in zip(table, goal)])


def is_reaching(table, goal, value):
    """Whether the value is a paper for reached."""
    check_fit(table, goal)
    return shows_reached(value, table, goal)


def is_bar(table, goal, value):
    """Whether the value is a paper for never reached."""
    check_fit(table, goal)
    return shows_never_reached(value, table, goal)


# A board has the equations y A = -c for the weights y, one for each letter, as rows of integers over one lead:
# columns of the wishes, one further column for each equation, and what the row comes to. Each row is solved for one
# column, its base. The last row tells what each column costs: below 0 if a weight there makes y b greater.


def first_board(rows, signs, wish):
    """The board that is solved for the further columns, without costs; signs make what rows come to at least 0."""
    lines = []
    for i, sign in enumerate(signs):
        further = [1 if i == j else 0 for j in range(len(signs))]
        lines.append([sign * row[i] for row in rows] + further + [-sign * wish[i]])
    return (lines, tuple([len(rows) + i for i in range(len(signs))]), 1)


def with_costs(board, gains):
    """The board with the costs for these gains of the columns as its last row."""
    lines, bases, lead = board
    costs = []
    for column, gain in enumerate(gains):
        costs.append(sum([gains[base] * line[column] for base, line in zip(bases, lines)]) - lead * gain)
    return (lines[:len(bases)] + [costs], bases, lead)


def solved_for(board, at, column):
    """The board with the row at `at` solved for the column, in which it is not 0."""
    lines, bases, lead = board
    # The row may be turned: it comes to 0 if its number in the column is below 0.
    upper = lines[at] if lines[at][column] > 0 else [-number for number in lines[at]]
    head = upper[column]
    changed = []
    for i, line in enumerate(lines):
        low = line[column]
        # All numbers are determinants, so the division leaves no rest.
        changed.append(upper if i == at else [(head * x - low * y) // lead for x, y in zip(line, upper)])
    return (changed, bases[:at] + (column,) + bases[at + 1:], head)


def leaving_row(board, column):
    """The row that bars a greater weight at the column first, the one with the least base; None if none does."""
    lines, bases, _ = board
    best = None
    for i, base in enumerate(bases):
        step = lines[i][column]
        if step > 0:
            room = (lines[i][-1], step)
            order = -1 if best is None else sign_of_difference(room, best[0])
            if order < 0 or order == 0 and base < best[1]:
                best = (room, base, i)
    return None if best is None else best[2]


def best_board(board, many):
    """The board at which no weight at one of the first `many` columns makes more, and None.

    Or the board, and a column at which the weight can be as great as one likes, making ever more.
    """
    while True:
        # The first column and the least base are taken, so no choice of bases comes again.
        worth = [column for column in range(many) if board[0][-1][column] < 0]
        if not worth:
            return (board, None)
        at = leaving_row(board, worth[0])
        if at is None:
            return (board, worth[0])
        board = solved_for(board, at, worth[0])


def without_further(board, many):
    """The board, solved for columns of wishes in all rows that are not 0 at all of them."""
    for at in range(len(board[1])):
        places = [column for column in range(many) if board[0][at][column] != 0]
        if board[1][at] >= many and places:
            board = solved_for(board, at, places[0])
    return board


def weights_at(board, many):
    """What stands at the end of the row that is solved for each of the first columns, over the lead."""
    weights = [0] * many
    for base, line in zip(board[1], board[0]):
        if base < many:
            weights[base] = line[-1]
    return weights


def endless_weights(board, many, column):
    """The integers, at least 0, by which weights can be made greater as often as one likes."""
    weights = [0] * many
    weights[column] = board[2]
    for base, line in zip(board[1], board[0]):
        if base < many:
            weights[base] = -line[column]
    return weights


def weighed(table, goal, wish):
    """("far", d): A d is at least 0 and c d = 1; ("barred", y): a paper for never reached; or ("best", x, y).

    The last one has papers for the greatest c x of those x that reach.
    """
    pairs = [whole_row(0, row + (bound,)) for row, bound in zip(table, goal)]
    rows = [row for row, _ in pairs]
    aims, scale = whole_row(0, wish)
    many, letters = len(rows), len(aims)
    signs = [-1 if aim > 0 else 1 for aim in aims]
    board = with_costs(first_board(rows, signs, aims), [0] * many + [-1] * letters + [0])
    board, _ = best_board(board, many)
    costs = board[0][-1]
    if costs[-1] != 0:
        far = [sign * (cost - board[2]) for sign, cost in zip(signs, costs[many:])]
        return ("far", tuple([quotient(0, number * scale, integer_dot(aims, far)) for number in far]))
    board = without_further(board, many)
    board = with_costs(board, [row[-1] for row in rows] + [0] * (letters + 1))
    board, column = best_board(board, many)
    if column is not None:
        weights = endless_weights(board, many, column)
        whole = integer_dot(weights, [row[-1] for row in rows])
        return ("barred", tuple([quotient(0, number * pair[1], whole) for number, pair in zip(weights, pairs)]))
    reach = tuple([quotient(0, sign * cost, board[2]) for sign, cost in zip(signs, board[0][-1][many:])])
    weights = weights_at(board, many)
    return ("best", reach, tuple([
        quotient(0, number * pair[1], board[2] * scale) for number, pair in zip(weights, pairs)
    ]))


def reach_answer(table, goal):
    """The claim that some vector reaches, or that none does, and a paper."""
    check_fit(table, goal)
    found = weighed(table, goal, (ZERO,) * len(table[0]))
    if found[0] == "barred":
        return (("never reached", table, goal), found[1])
    return (("reached", table, goal), found[1])


def greatest_answer(table, goal, wish):
    """The claim about the greatest value of the wish, that there is none, or that nothing reaches, and a paper."""
    check_fit(table, goal)
    check_letters(table, wish)
    found = weighed(table, goal, wish)
    if found[0] == "best":
        return (("greatest", table, goal, wish, dot(0, wish, found[1])), (found[1], found[2]))
    claim, paper = reach_answer(table, goal)
    if claim[0] == "never reached":
        return (claim, paper)
    return (("no greatest", table, goal, wish), (paper, found[1]))


def follow_answer(table, goal, wish, bound):
    """The claim that the wish is at least the bound wherever the goal is reached, or that it escapes, and a paper."""
    check_fit(table, goal)
    check_letters(table, wish)
    check_number(0, bound)
    found = weighed(table, goal, tuple([opposite(0, number) for number in wish]))
    follows = ("follows", table, goal, wish, bound)
    escapes = ("escapes", table, goal, wish, bound)
    if found[0] == "best":
        if sign_of_difference(dot(0, wish, found[1]), bound) >= 0:
            return (follows, ("sum", found[2]))
        return (escapes, found[1])
    claim, paper = reach_answer(table, goal)
    if claim[0] == "never reached":
        return (follows, ("never", paper))
    return (escapes, gone_below(wish, bound, paper, found[1]))


def gone_below(wish, bound, vector, far):
    """The vector, led so far the way on which the wish falls by 1 that it is below the bound."""
    above = minus(0, dot(0, wish, vector), bound)
    steps = plus(0, above, ONE) if above[0] >= 0 else ZERO
    return tuple([plus(0, number, times(0, steps, step)) for number, step in zip(vector, far)])


def bad_lots(table, goal):
    """The ascending tuple of all least bad lots of at most six wishes."""
    check_fit(table, goal)
    if len(table) > MOST_TRIED:
        raise TooMany(MOST_TRIED)
    found = []
    for many in range(1, len(table) + 1):
        for lot in combinations(range(len(table)), many):
            holds_one = any([all([index in lot for index in less]) for less in found])
            if not holds_one and is_bad(table, goal, lot):
                found.append(lot)
    return tuple(sorted(found))


def is_bad(table, goal, lot):
    """Whether the wishes with these indices cannot be reached."""
    rows = tuple([table[index] for index in lot])
    bounds = tuple([goal[index] for index in lot])
    return reach_answer(rows, bounds)[0][0] == "never reached"
