"""Stage 4: whole tables."""
import random
from fractions import Fraction
from itertools import combinations
from math import gcd

from helping import ODD, Case, is_integer, is_vector

from zeroorone import errors
from zeroorone.tables import whole
from zeroorone.tables.whole import is_stairs, stairs, stairs_answer, steps, steps_answer, whole_answer

TWENTY = 10 ** 20 - 1


def is_whole_table(value):
    return (isinstance(value, tuple) and 1 <= len(value) <= 6
            and all(isinstance(row, tuple) and 1 <= len(row) <= 6 for row in value)
            and len({len(row) for row in value}) == 1 and all(is_integer(x, 20) for row in value for x in row))


def determinant(rows):
    if not rows:
        return 1
    return sum((-1) ** j * x * determinant([row[:j] + row[j + 1:] for row in rows[1:]])
               for j, x in enumerate(rows[0]) if x)


def parts(table, size):
    for rows in combinations(range(len(table)), size):
        for columns in combinations(range(len(table[0])), size):
            yield determinant([tuple(table[i][j] for j in columns) for i in rows])


def told_steps(table):
    found, before = [], 1
    for size in range(1, min(len(table), len(table[0])) + 1):
        common = gcd(*parts(table, size))
        if common == 0:
            break
        found.append(common // before)
        before = common
    return tuple(found)


def told_stairs(value):
    """[4.3], word by word, for tuples of rows of integers."""
    before = -1
    for index, row in enumerate(value):
        if not any(row):
            return False
        lead = next(j for j, x in enumerate(row) if x)
        if row[lead] < 0 or lead <= before or any(not 0 <= upper[lead] < row[lead] for upper in value[:index]):
            return False
        before = lead
    return True


def sums(factors, rows, width):
    return tuple(sum(f * row[j] for f, row in zip(factors, rows)) for j in range(width))


def random_table(source, side=4):
    size = source.choice((1, 2, 5, 40))
    rows, columns = source.randint(1, side), source.randint(1, side)
    return tuple(tuple(source.randint(-size, size) for _ in range(columns)) for _ in range(rows))


def judge_whole(case, table, vector):
    claim, paper = whole_answer(table, vector)
    case.assertEqual(claim[1:], (table, vector))
    if claim[0] == "whole":
        case.assertTrue(isinstance(paper, tuple) and all(is_integer(x, None) for x in paper))
        case.assertEqual(len(paper), len(table[0]))
        case.assertEqual(tuple(sum(a * x for a, x in zip(row, paper)) for row in table), vector)
    else:
        case.assertEqual(claim[0], "never whole")
        case.assertTrue(is_vector(0, paper, len(table), None))
        y = [Fraction(*number) for number in paper]
        for column in zip(*table):
            case.assertEqual(sum(a * b for a, b in zip(y, column)).denominator, 1)
        case.assertNotEqual(sum(a * b for a, b in zip(y, vector)).denominator, 1)
    return claim[0]


def judge_stairs(case, table):
    claim, (up, down) = stairs_answer(table)
    rows = claim[2]
    case.assertEqual(claim, ("stairs", table, stairs(table)))
    case.assertTrue(told_stairs(rows) and is_stairs(rows))
    case.assertEqual((len(up), len(down)), (len(rows), len(table)))
    case.assertTrue(isinstance(up, tuple) and isinstance(down, tuple))
    for factors, row in zip(up, rows):
        case.assertEqual(len(factors), len(table))
        case.assertEqual(sums(factors, table, len(table[0])), row)
    for factors, row in zip(down, table):
        case.assertEqual(len(factors), len(rows))
        case.assertEqual(sums(factors, rows, len(row)), row)
    case.assertTrue(all(isinstance(line, tuple) and all(is_integer(x, None) for x in line) for line in up + down))


def judge_steps(case, table):
    claim, paper = steps_answer(table)
    found = claim[2]
    case.assertEqual(claim, ("steps", table, steps(table)))
    case.assertEqual((len(paper), isinstance(paper, tuple)), (len(found), True))
    product = 1
    for size, (step, triples) in enumerate(zip(found, paper), 1):
        product *= step
        case.assertTrue(is_integer(step, None) and step >= 1)
        total = 0
        for rows, columns, weight in triples:
            for indices, bound in ((rows, len(table)), (columns, len(table[0]))):
                case.assertTrue(isinstance(indices, tuple) and all(is_integer(k) for k in indices))
                case.assertTrue(len(indices) == size and list(indices) == sorted(set(indices)))
                case.assertTrue(0 <= indices[0] and indices[-1] < bound)
            case.assertTrue(is_integer(weight, None))
            total += weight * determinant([tuple(table[i][j] for j in columns) for i in rows])
        case.assertEqual(total, product)
        case.assertTrue(all(value % product == 0 for value in parts(table, size)))
    case.assertFalse(any(parts(table, len(found) + 1)))


class Parameters(Case):
    def test_constant(self):
        self.assertEqual(whole.MAX_WHOLE, 6)

    def test_first_wrong_argument_is_told(self):
        rule = (errors.InvalidTable, None, is_whole_table)
        for call in (stairs, stairs_answer, steps, steps_answer):
            self.check_refusals(call, (((4, 2), (6, 0)),), (rule,))
        vector = (errors.InvalidTable, None, lambda value: isinstance(value, tuple) and len(value) == 2
                  and all(is_integer(x, 20) for x in value))
        self.check_refusals(whole_answer, (((4, 2), (6, 0)), (2, 6)), (rule, vector))

    def test_bounds(self):
        for rows, columns in ((1, 1), (6, 6), (1, 6), (6, 1)):
            table = ((2,) * columns,) * rows
            self.assertEqual((stairs(table), steps(table)), (((2,) * columns,), (2,)))
            self.assertEqual(judge_whole(self, table, (4,) * rows), "whole")
            self.assertEqual(judge_whole(self, table, (3,) * rows), "never whole")
        for rows, columns in ((7, 1), (1, 7), (0, 0), (1, 0)):
            table = ((2,) * columns,) * rows
            for call in (stairs, stairs_answer, steps, steps_answer):
                self.refuses(errors.InvalidTable, call, table)
            self.refuses(errors.InvalidTable, whole_answer, table, (4,) * rows)
        for right in (TWENTY, -TWENTY):
            self.assertEqual(stairs(((right,),)), ((TWENTY,),))
            self.assertEqual(judge_whole(self, ((1,),), (right,)), "whole")
        for wrong in (TWENTY + 1, -TWENTY - 1, True, (1, 1), None):
            self.refuses(errors.InvalidTable, stairs, ((wrong,),))
            self.refuses(errors.InvalidTable, whole_answer, ((1,),), (wrong,))
        self.refuses(errors.InvalidTable, whole_answer, ((1,), (2,)), (1,))
        self.refuses(errors.InvalidTable, whole_answer, ((1,), (2,)), [1, 2])
        self.refuses(errors.InvalidTable, stairs, ((1, 2), (3,)))


class Stairs(Case):
    def test_examples(self):
        self.assertEqual(
            [stairs(((4, 2), (6, 0))), stairs(((0, 0),)), is_stairs(((2, 7), (0, 6))), steps(((4, 2), (6, 0))),
             steps(((2, 1), (0, 2)))], [((2, 4), (0, 6)), (), False, (2, 6), (1, 4)])
        self.assertEqual(
            [whole_answer(((2,),), (6,)), whole_answer(((2,),), (3,))[0], stairs_answer(((2,), (3,)))[0],
             steps_answer(((3,),))[0]],
            [(("whole", ((2,),), (6,)), (3,)), ("never whole", ((2,),), (3,)),
             ("stairs", ((2,), (3,)), ((1,),)), ("steps", ((3,),), (3,))])
        self.refuses(errors.InvalidTable, whole_answer, ((1,), (2,)), (1,))

    def test_is_stairs_takes_every_value(self):
        right = ("()", "((1,),)", "((1, 2),)", "((0, 1),)", "((1, 0),)")
        for value in ODD:
            self.assertIs(is_stairs(value), isinstance(value, tuple) and len(value) < 2 and repr(value) in right)

    def test_is_stairs(self):
        right = [((10 ** 90, 5),), ((0, 3), ), ((1, 0), (0, 1)), ((2, 0, 5), (0, 3, 9)), ((2, 1, 5), (0, 0, 6)),
                 tuple(tuple(int(i == j) for j in range(9)) for i in range(9))]
        wrong = [((0, 0),), ((-1, 2),), ((1, 0), (1, 0)), ((0, 1), (1, 0)), ((1, 3), (0, 3)), ((1, -1), (0, 3)),
                 ((1, 0), (0, 0)), ((1, 0), (0,)), ((True, 0),), ([1, 0],), [(1, 0)], ((1, None),), (((1, 1),),),
                 ((1, 0), (0, -1)), (1, 2), ((1, 7), (0, 6)), ((1, 0), (2, 0)), ((0, 1), (0, 2))]
        for value in right:
            self.assertIs(is_stairs(value), True, value)
        for value in wrong:
            self.assertIs(is_stairs(value), False, value)

    def test_answers_of_small_tables(self):
        source = random.Random(21)
        for _ in range(700):
            judge_stairs(self, random_table(source))

    def test_stairs_stay_if_rows_are_changed(self):
        source = random.Random(22)
        for _ in range(300):
            table = random_table(source)
            rows = [list(row) for row in table]
            source.shuffle(rows)
            rows[0] = [-x for x in rows[0]]
            if len(rows) > 1:
                rows[1] = [x + 5 * y for x, y in zip(rows[1], rows[0])]
            self.assertEqual(stairs(tuple(map(tuple, rows))), stairs(table))

    def test_edges(self):
        for table in (((0,),), ((0, 0), (0, 0)), ((-3,),), ((0, -4, 6),), ((0,), (-6,), (4,)), ((0, 0, 5), (0, 0, -3)),
                      ((-2, -4), (-3, -6))):
            judge_stairs(self, table)
            judge_steps(self, table)
        self.assertEqual((stairs(((0, -4, 6),)), stairs(((0,), (-6,), (4,)))), (((0, 4, -6),), ((2,),)))
        self.assertEqual((steps(((0, 0), (0, 0))), steps_answer(((0, 0),))[1]), ((), ()))
        self.assertEqual((steps(((0, -4, 6),)), steps(((-6,), (4,)))), ((2,), (2,)))

    def test_leads_are_not_the_steps(self):
        self.assertEqual((stairs(((2, 1), (0, 2))), steps(((2, 1), (0, 2)))), (((2, 1), (0, 2)), (1, 4)))


class Steps(Case):
    def test_answers_of_small_tables(self):
        source = random.Random(23)
        for _ in range(500):
            table = random_table(source)
            self.assertEqual(steps(table), told_steps(table))
            judge_steps(self, table)

    def test_rows_of_long_integers(self):
        source = random.Random(24)
        for rows, columns in ((6, 6), (6, 3), (2, 6), (6, 1), (1, 6)):
            table = tuple(tuple(source.randint(-TWENTY, TWENTY) for _ in range(columns)) for _ in range(rows))
            judge_stairs(self, table)
            judge_whole(self, table, tuple(source.randint(-TWENTY, TWENTY) for _ in table))
            x = [source.randint(-9, 9) for _ in range(columns)]
            small = tuple(tuple(k // 10 ** 3 for k in row) for row in table)
            reached = tuple(sum(a * b for a, b in zip(row, x)) for row in small)
            self.assertEqual(judge_whole(self, small, reached), "whole")
            judge_steps(self, table)

    def test_flat_tables_of_long_integers(self):
        source = random.Random(25)
        left = [[source.randint(-10 ** 9, 10 ** 9) for _ in range(2)] for _ in range(6)]
        right = [[source.randint(-10 ** 9, 10 ** 9) for _ in range(6)] for _ in range(2)]
        table = tuple(tuple(sum(a * b for a, b in zip(row, column)) for column in zip(*right)) for row in left)
        self.assertEqual(len(steps(table)), 2)
        judge_steps(self, table)
        judge_stairs(self, table)


class Whole(Case):
    def test_answers_of_small_tables(self):
        source = random.Random(26)
        kinds = []
        for _ in range(900):
            table = random_table(source)
            kinds.append(judge_whole(self, table, tuple(source.randint(-6, 6) for _ in table)))
            x = [source.randint(-4, 4) for _ in table[0]]
            reached = tuple(sum(a * b for a, b in zip(row, x)) for row in table)
            self.assertEqual(judge_whole(self, table, reached), "whole")
        self.assertGreater(min(kinds.count("whole"), kinds.count("never whole")), 100)

    def test_zeros(self):
        self.assertEqual(judge_whole(self, ((0, 0),), (0,)), "whole")
        self.assertEqual(judge_whole(self, ((0, 0),), (-5,)), "never whole")
        self.assertEqual(judge_whole(self, ((2,), (4,)), (1, 2)), "never whole")
        self.assertEqual(judge_whole(self, ((2,), (4,)), (2, 2)), "never whole")
