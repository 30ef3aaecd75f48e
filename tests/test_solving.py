"""Stage 3: tables over a ground."""
import random
from fractions import Fraction
from itertools import permutations, product

from helping import GROUND, HALF, ODD, ONE, TWO, ZERO, Case, between, is_ground, is_integer, is_number, is_table
from helping import is_vector, random_number, read, same, told

from zeroorone import errors
from zeroorone.tables import solving
from zeroorone.tables.solving import determinant, kernel, leads, rank, rank_answer, reduced_rows, solve_answer
from zeroorone.tables.solving import table_product, undoing, unit_table

GROUNDS = (0, 2, 3, 5, 101, 9973)
TWENTY = 10 ** 20 - 1


def random_table(source, ground, rows, columns, size=3):
    return tuple(tuple(random_number(source, ground, size) for _ in range(columns)) for _ in range(rows))


def some_tables(source, ground, many, side=4):
    for _ in range(many):
        rows, columns = source.randint(1, side), source.randint(1, side)
        table = random_table(source, ground, rows, columns, source.choice((1, 3)))
        if source.random() < 0.4 and rows > 1:
            factor = random_number(source, ground, 2)
            table = table[:-1] + (tuple(told(ground, read(ground, x) * read(ground, factor)) for x in table[0]),)
        yield table


def numbers(ground, values):
    return [read(ground, value) for value in values]


def dot(ground, one, other):
    total = sum(read(ground, x) * read(ground, y) for x, y in zip(one, other))
    return told(ground, total)


def times(ground, one, other):
    return tuple(tuple(dot(ground, row, column) for column in zip(*other)) for row in one)


def number(ground, integer):
    return told(ground, integer)


def unit(ground, size):
    return tuple(tuple(number(ground, int(i == j)) for j in range(size)) for i in range(size))


def leibniz(ground, table):
    total = 0
    for order in permutations(range(len(table))):
        term = 1
        for i, j in enumerate(order):
            term *= read(ground, table[i][j])
            term *= (-1) ** sum(order[k] > j for k in range(i))
        total += term
    return told(ground, total)


def table_rule(ground):
    return (errors.InvalidTable, None, lambda value: is_table(ground, value))


def judge_rank(case, claim, paper):
    kind, ground, table, many = claim
    rows, columns, back, sums = paper
    case.assertEqual((kind, len(rows), len(columns), len(back), len(sums)), ("rank", many, many, many, len(table)))
    for indices, bound in ((rows, len(table)), (columns, len(table[0]))):
        case.assertEqual(list(indices), sorted(set(indices)))
        case.assertTrue(all(is_integer(k) and 0 <= k < bound for k in indices))
    if many:
        part = tuple(tuple(table[i][j] for j in columns) for i in rows)
        case.assertEqual(times(ground, back, part), unit(ground, many))
        case.assertTrue(all(is_vector(ground, row, many, None) for row in back))
    for row, factors in zip(table, sums):
        case.assertTrue(is_vector(ground, factors, many, None))
        made = [dot(ground, factors, [table[i][j] for i in rows]) for j in range(len(row))]
        case.assertEqual(tuple(made), row)


def judge_solved(case, claim, paper):
    kind, ground, table, vector = claim
    if kind == "solved":
        case.assertTrue(is_vector(ground, paper, len(table[0]), None))
        case.assertEqual(tuple(dot(ground, row, paper) for row in table), vector)
    else:
        case.assertEqual(kind, "barred")
        case.assertTrue(is_vector(ground, paper, len(table), None))
        for column in zip(*table):
            case.assertEqual(dot(ground, paper, column), number(ground, 0))
        case.assertEqual(dot(ground, paper, vector), number(ground, 1))
    return kind


class Parameters(Case):
    def test_constant(self):
        self.assertEqual(solving.MAX_SIDE, 12)

    def test_is_table_takes_every_value(self):
        for ground in (0, 2, 5):
            for value in ODD:
                self.assertIs(solving.is_table(ground, value), is_table(ground, value), (ground, value))
        for ground in ODD:
            if not is_ground(ground):
                self.assertIs(self.refuses(errors.InvalidGround, solving.is_table, ground, None).value, ground)

    def test_sizes_at_the_bounds_and_beyond(self):
        for rows, columns in ((1, 1), (12, 12), (1, 12), (12, 1)):
            self.assertIs(solving.is_table(7, ((3,) * columns,) * rows), True)
            self.assertEqual(rank(7, ((3,) * columns,) * rows), 1)
        for rows, columns in ((13, 1), (1, 13), (13, 13), (0, 0), (1, 0), (12, 0)):
            table = ((3,) * columns,) * rows
            self.assertIs(solving.is_table(7, table), False)
            for call in (leads, rank, reduced_rows, kernel, determinant, undoing, rank_answer):
                self.refuses(errors.InvalidTable, call, 7, table)
            self.refuses(errors.InvalidTable, solve_answer, 7, table, (3,) * rows)
            self.refuses(errors.InvalidTable, table_product, 7, table, table)

    def test_twenty_digits(self):
        for right in ((TWENTY, 1), (-TWENTY, 1), (1, TWENTY)):
            self.assertIs(solving.is_table(0, ((right,),)), True)
            self.assertEqual(solve_answer(0, ((ONE,),), (right,))[1], (right,))
        for wrong in ((TWENTY + 1, 1), (-TWENTY - 1, 1), (1, TWENTY + 1)):
            self.assertIs(solving.is_table(0, ((wrong,),)), False)
            self.refuses(errors.InvalidTable, determinant, 0, ((wrong,),))
            self.refuses(errors.InvalidTable, solve_answer, 0, ((ONE,),), (wrong,))

    def test_wrong_tables(self):
        wrong = [((ONE, ONE), (ONE,)), (ONE,), [(ONE,)], ([ONE],), (([1, 1],),), ((1,),), (((True, 1),),), ((), ()), (),
                 (((2, 2),),), ((ONE,), None)]
        for table in wrong:
            self.assertIs(solving.is_table(0, table), False)
            self.refuses(errors.InvalidTable, rank, 0, table)
        for table in (((True,),), ((5,),), ((-1,),), (((1, 1),),), ((1, 0), (0, 1, 0)), ((0.5,),)):
            self.refuses(errors.InvalidTable, rank, 5, table)

    def test_first_wrong_argument_is_told(self):
        for ground, table in ((0, ((ONE, HALF), (ZERO, TWO))), (5, ((1, 2), (0, 3)))):
            rule = table_rule(ground)
            for call in (leads, rank, reduced_rows, kernel, determinant, undoing, rank_answer):
                self.check_refusals(call, (ground, table), (GROUND, rule))
            self.check_refusals(table_product, (ground, table, table), (GROUND, rule, rule))
            vector = (errors.InvalidTable, None, lambda value: is_vector(ground, value, 2, 20))
            self.check_refusals(solve_answer, (ground, table, table[0]), (GROUND, rule, vector))
            self.check_refusals(unit_table, (ground, 2), (GROUND, between(1, 12)))

    def test_errors_behind_all_others(self):
        wide, tall = ((1, 2, 3),), ((1,), (2,))
        for table in (wide, tall):
            self.refuses(errors.InvalidOperation, determinant, 5, table)
            self.refuses(errors.InvalidOperation, undoing, 5, table)
        self.refuses(errors.InvalidOperation, table_product, 5, wide, wide)
        self.refuses(errors.InvalidTable, table_product, 5, wide, ((9,),))
        self.refuses(errors.InvalidTable, determinant, 5, ((9, 9, 9),))
        for table in (((0,),), ((1, 2), (2, 4))):
            self.assertEqual(self.refuses(errors.Refused, undoing, 5, table).reason, ("flat",))
        for vector in ((1,), (1, 2, 3), (), [1, 2], (1, True), (1, 5)):
            self.refuses(errors.InvalidTable, solve_answer, 5, tall, vector)


class Rows(Case):
    def test_examples(self):
        self.assertEqual(
            [determinant(5, ((1, 2), (3, 4))), undoing(5, ((1, 2), (3, 4))), reduced_rows(5, ((1, 2), (2, 4))),
             kernel(5, ((1, 2), (2, 4)))], [3, ((3, 1), (4, 2)), ((1, 2),), ((3, 1),)])
        self.assertEqual(
            [solve_answer(0, ((TWO,),), (ONE,)), solve_answer(5, ((0,),), (2,)), rank_answer(2, ((0, 0),))],
            [(("solved", 0, (((2, 1),),), ((1, 1),)), ((1, 2),)), (("barred", 5, ((0,),), (2,)), (3,)),
             (("rank", 2, ((0, 0),), 0), ((), (), (), ((),)))])
        self.assertEqual(self.refuses(errors.Refused, undoing, 5, ((1, 2), (2, 4))).reason, ("flat",))

    def test_unit_tables(self):
        for ground in GROUNDS:
            for size in (1, 2, 12):
                self.assertEqual(unit_table(ground, size), unit(ground, size))

    def test_reduced_rows_are_as_told(self):
        source = random.Random(11)
        for ground in GROUNDS:
            for table in some_tables(source, ground, 60):
                rows, found = reduced_rows(ground, table), leads(ground, table)
                self.assertEqual((len(rows), rank(ground, table)), (len(found), len(found)))
                for row, lead in zip(rows, found):
                    self.assertTrue(is_vector(ground, row, len(table[0]), None))
                    self.assertEqual(row[lead], number(ground, 1))
                    self.assertTrue(all(x == number(ground, 0) for x in row[:lead]))
                    self.assertEqual(sum(other[lead] != number(ground, 0) for other in rows), 1)
                self.assertEqual(list(found), sorted(set(found)))
                # Each row of the table is the sum of the reduced rows, by its numbers at the leads.
                for row in table:
                    made = [dot(ground, [row[k] for k in found], [line[j] for line in rows]) for j in range(len(row))]
                    self.assertEqual(tuple(made), row)

    def test_reduced_rows_stay_if_rows_are_changed(self):
        source = random.Random(12)
        for ground in GROUNDS:
            for table in some_tables(source, ground, 40):
                rows = [numbers(ground, row) for row in table]
                source.shuffle(rows)
                factor = source.choice([1, 3, 5, 7]) if ground != 3 and ground != 5 else 2
                factor = 1 if ground == 2 else factor
                factor = factor if not ground or factor % ground else 1
                rows[0] = [x * factor for x in rows[0]]
                if len(rows) > 1:
                    rows[1] = [x + 4 * y for x, y in zip(rows[1], rows[0])]
                changed = tuple(tuple(told(ground, x) for x in row) for row in rows)
                self.assertEqual(reduced_rows(ground, changed), reduced_rows(ground, table))

    def test_tables_of_zeros(self):
        for ground in GROUNDS:
            zero = number(ground, 0)
            table = ((zero,) * 3,) * 2
            self.assertEqual((reduced_rows(ground, table), leads(ground, table), rank(ground, table)), ((), (), 0))
            self.assertEqual(kernel(ground, table), unit(ground, 3))
            self.assertEqual(rank_answer(ground, table), (("rank", ground, table, 0), ((), (), (), ((), ()))))
            square = ((zero,) * 3,) * 3
            self.assertEqual(determinant(ground, square), zero)

    def test_rank_with_rows_and_columns_exchanged(self):
        source = random.Random(13)
        for ground in GROUNDS:
            for table in some_tables(source, ground, 40, 6):
                self.assertEqual(rank(ground, table), rank(ground, tuple(zip(*table))))

    def test_kernel_leads_to_0_and_stands_as_told(self):
        source = random.Random(14)
        for ground in GROUNDS:
            for table in some_tables(source, ground, 60):
                rows, found = reduced_rows(ground, table), leads(ground, table)
                free = [j for j in range(len(table[0])) if j not in found]
                vectors = kernel(ground, table)
                self.assertEqual(len(vectors), len(free))
                for j, vector in zip(free, vectors):
                    self.assertTrue(is_vector(ground, vector, len(table[0]), None))
                    self.assertEqual([vector[k] for k in free], [number(ground, int(k == j)) for k in free])
                    for row, lead in zip(rows, found):
                        self.assertTrue(same(ground, read(ground, vector[lead]), -read(ground, row[j])))
                    self.assertTrue(all(dot(ground, row, vector) == number(ground, 0) for row in table))


class Squares(Case):
    def test_determinants(self):
        source = random.Random(15)
        for ground in GROUNDS:
            for size in (1, 2, 3, 4):
                for _ in range(12):
                    table = random_table(source, ground, size, size)
                    self.assertEqual(determinant(ground, table), leibniz(ground, table))
                    self.assertEqual(determinant(ground, tuple(zip(*table))), determinant(ground, table))

    def test_determinants_of_products(self):
        source = random.Random(16)
        for ground in GROUNDS:
            for size in (1, 2, 3, 5, 8, 12):
                one, other = (random_table(source, ground, size, size, 2) for _ in range(2))
                both = table_product(ground, one, other)
                self.assertEqual(both, times(ground, one, other))
                self.assertEqual(read(ground, determinant(ground, both)),
                                 read(ground, told(ground, read(ground, determinant(ground, one))
                                                   * read(ground, determinant(ground, other)))))

    def test_undoing_both_ways_round(self):
        source = random.Random(17)
        for ground in GROUNDS:
            for size in (1, 2, 3, 5, 12):
                for _ in range(8 if size < 6 else 1):
                    table = random_table(source, ground, size, size)
                    if determinant(ground, table) == number(ground, 0):
                        self.assertEqual(self.refuses(errors.Refused, undoing, ground, table).reason, ("flat",))
                        continue
                    undone = undoing(ground, table)
                    self.assertEqual(times(ground, table, undone), unit(ground, size))
                    self.assertEqual(times(ground, undone, table), unit(ground, size))

    def test_long_numbers(self):
        source = random.Random(18)

        def long_number():
            return told(0, Fraction(source.randint(-TWENTY, TWENTY), source.randint(1, TWENTY)))
        table = tuple(tuple(long_number() for _ in range(12)) for _ in range(12))
        vector = tuple(long_number() for _ in range(12))
        self.assertEqual(times(0, table[:2], undoing(0, table)), unit(0, 12)[:2])
        self.assertEqual(judge_solved(self, *solve_answer(0, table, vector)), "solved")
        flat = table[:11] + (table[10],)
        self.assertEqual(judge_solved(self, *solve_answer(0, flat, vector)), "barred")
        claim, paper = rank_answer(0, tuple(row[:6] for row in flat))
        self.assertEqual(claim[3], 6)
        judge_rank(self, claim, paper)


class Answers(Case):
    def test_solved_or_barred(self):
        source = random.Random(19)
        kinds = []
        for ground in GROUNDS:
            for table in some_tables(source, ground, 80):
                vector = tuple(random_number(source, ground, 2) for _ in table)
                claim, paper = solve_answer(ground, table, vector)
                self.assertEqual(claim[1:], (ground, table, vector))
                kinds.append(judge_solved(self, claim, paper))
                x = [random_number(source, ground, 3) for _ in table[0]]
                reached = tuple(dot(ground, row, x) for row in table)
                self.assertEqual(judge_solved(self, *solve_answer(ground, table, reached)), "solved")
        self.assertGreater(min(kinds.count("solved"), kinds.count("barred")), 100)

    def test_all_vectors_modulo_3(self):
        for entries in product(range(3), repeat=4):
            table = (entries[:2], entries[2:])
            reached = {tuple(dot(3, row, x) for row in table) for x in product(range(3), repeat=2)}
            for vector in product(range(3), repeat=2):
                kind = judge_solved(self, *solve_answer(3, table, vector))
                self.assertEqual(kind == "solved", vector in reached)

    def test_what_is_solved_over_the_fractions_may_be_barred_modulo_a_prime(self):
        self.assertEqual(solve_answer(0, ((TWO,),), (ONE,))[0][0], "solved")
        self.assertEqual(solve_answer(2, ((0,),), (1,))[0][0], "barred")

    def test_rank_answers(self):
        source = random.Random(20)
        seen = set()
        for ground in GROUNDS:
            for table in some_tables(source, ground, 60, 5):
                claim, paper = rank_answer(ground, table)
                self.assertEqual(claim, ("rank", ground, table, rank(ground, table)))
                judge_rank(self, claim, paper)
                seen.add((claim[3], len(table), len(table[0])))
        self.assertGreater(len(seen), 20)
        self.assertTrue(is_number(0, ONE))
