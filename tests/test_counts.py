"""Stage 15: how many points."""
import random
from fractions import Fraction
from itertools import product

from forms import form_rule, forms_rule, is_ascending, plus, random_form, size_rule, term, times
from helping import BIG, GROUND, HALF, LESS, ODD, ONE, TWO, ZERO, Case, is_number, told
from judging import is_paper, told_signs
from polys import made, times as poly_times
from sampling import finite_forms
from test_stairs import at as value_at

from zeroorone import errors
from zeroorone.paper.checker import takes
from zeroorone.points.counts import change_of, complex_answer, is_change, real_answer, signed_answer, signs_of, trace_of
from zeroorone.points.counts import trace_table
from zeroorone.points.stairs import standing, table_of

CIRCLE, LINE = {(2, 0): ONE, (0, 2): ONE, (0, 0): LESS}, {(1, 0): ONE, (0, 1): LESS}
PAIR, ROOTS, TWICE = (CIRCLE, LINE), ({(2,): ONE, (0,): ONE},), ({(2,): ONE, (1,): (-2, 1), (0,): ONE},)
ANSWERS = (complex_answer, real_answer)


def in_letter(size, index, poly):
    return {tuple(k if at == index else 0 for at in range(size)): n for k, n in enumerate(poly) if n != ZERO}


def grid_forms(rows):
    """Forms that are 0 where each letter is a root of its poly."""
    return tuple(in_letter(len(rows), index, poly) for index, poly in enumerate(rows))


def with_roots(*roots):
    return poly_times(0, *[made(0, [-Fraction(root), 1]) for root in roots])


def product_of(values):
    result = Fraction(1)
    for value in values:
        result *= value
    return result


def even_table(source, size):
    rows = [[Fraction(0)] * size for _ in range(size)]
    flat = source.random() < 0.4
    for i in range(size):
        for j in range(i, size):
            rows[i][j] = rows[j][i] = Fraction(source.choice((0, 0, 1, -1, 2)), source.choice((1, 1, 3)))
        if flat:
            rows[i][i] = Fraction(0)
    return rows


def told_table(rows):
    return tuple(tuple(told(0, x) for x in row) for row in rows)


class Examples(Case):
    def test_examples(self):
        self.assertEqual([trace_table(2, PAIR, {(0, 0): ONE}), trace_of(1, TWICE, {(1,): ONE}),
                          signs_of((((0, 1), (1, 1)), ((1, 1), (0, 1))))],
                         [(((2, 1), (0, 1)), ((0, 1), (1, 1))), (2, 1), (1, 1)])
        self.assertEqual([complex_answer(2, PAIR)[0][3], real_answer(2, PAIR)[0][3], real_answer(1, ROOTS)[0][3],
                          complex_answer(1, TWICE)[0][3], signed_answer(2, PAIR, {(1, 0): ONE})[0][4:]],
                         [2, 2, 0, 1, (1, 1)])
        self.assertTrue(is_change((((0, 1), (1, 1)), ((1, 1), (0, 1))), (((1, 1), (1, 1)), ((-1, 2), (1, 2)))))
        self.assertEqual(self.refuses(errors.Refused, real_answer, 2, (LINE,)).reason, ("endless",))

    def test_not_true(self):
        # [15.6]: points, but no real one; equal signs, but the form is 0 at no point.
        self.assertEqual((complex_answer(1, ROOTS)[0][3], real_answer(1, ROOTS)[0][3]), (2, 0))
        self.assertEqual(signs_of(trace_table(2, PAIR, {(1, 0): ONE})), (1, 1))
        self.assertEqual(signed_answer(2, PAIR, times(0, {(1, 0): ONE}, {(1, 0): ONE}))[0][4:], (2, 0))


class Refusals(Case):
    def test_refusals(self):
        start = (size_rule(), forms_rule(0, 2))
        for call in ANSWERS:
            self.check_refusals(call, (2, PAIR), start)
        for call in (trace_of, trace_table, signed_answer):
            self.check_refusals(call, (2, PAIR, LINE), start + (form_rule(0, 2),))

        def is_even(value):
            return (isinstance(value, tuple) and len(value) <= 12
                    and all(isinstance(row, tuple) and len(row) == len(value) for row in value)
                    and all(is_number(0, x) for row in value for x in row)
                    and all(value[i][j] == value[j][i] for i in range(len(value)) for j in range(i)))
        even = (errors.InvalidTable, None, is_even)
        for call in (signs_of, change_of):
            self.check_refusals(call, (((ONE,),),), (even,))
        self.check_refusals(is_change, (((ONE,),), ((ONE,),)), (even,))
        self.assertFalse(GROUND[2](4))

    def test_endless(self):
        for call in ANSWERS:
            for forms in ((LINE,), (), ({},)):
                self.assertEqual(self.refuses(errors.Refused, call, 2, forms).reason, ("endless",))
        for call in (trace_of, trace_table, signed_answer):
            self.assertEqual(self.refuses(errors.Refused, call, 2, (LINE,), LINE).reason, ("endless",))
            # Behind the errors of all parameters.
            self.refuses(errors.InvalidForm, call, 2, (LINE,), {(13, 0): ONE})
            self.refuses(errors.InvalidForm, call, 2, (LINE,), {(1,): ONE})

    def test_tables_that_are_not_even(self):
        for wrong in (((ONE, TWO), (ONE, ONE)), ((ONE,), (ONE,)), ((ONE, TWO),), ((),), [()], ((1,),), (((2, 2),),),
                      (((BIG + 1, 1),),), ((ONE,) * 13,) * 13, None):
            for call in (signs_of, change_of):
                self.refuses(errors.InvalidTable, call, wrong)
            self.refuses(errors.InvalidTable, is_change, wrong, ())
        self.assertEqual(signs_of(((ONE,) * 12,) * 12), (1, 0))


class Signs(Case):
    def test_nothing(self):
        self.assertEqual((signs_of(()), change_of(())), ((0, 0), ((), ())))
        self.assertTrue(is_change((), ()))
        for value in ODD:
            self.assertIs(is_change((), value), value == ())

    def test_changes(self):
        source = random.Random(1)
        for _ in range(150):
            size = source.randint(1, 6)
            rows = even_table(source, size)
            table = told_table(rows)
            change, undoing = change_of(table)
            self.assertEqual(told_signs(change, undoing, rows), signs_of(table))
            self.assertTrue(is_change(table, change))

    def test_signs_stay_by_sums_of_rows(self):
        source = random.Random(2)
        for _ in range(40):
            # Signs that are known by how the table is made.
            size = source.randint(1, 5)
            numbers = [source.choice((-2, -1, 0, 0, 1, 3)) for _ in range(size)]
            rows = [[Fraction(numbers[i] if i == j else 0) for j in range(size)] for i in range(size)]
            for _ in range(6):
                i, j = source.randrange(size), source.randrange(size)
                if i != j:
                    often = Fraction(source.randint(-3, 3), source.choice((1, 2)))
                    rows[i] = [x + often * y for x, y in zip(rows[i], rows[j])]
                    for row in rows:
                        row[i] += often * row[j]
            wanted = (sum(n > 0 for n in numbers), sum(n < 0 for n in numbers))
            self.assertEqual(signs_of(told_table(rows)), wanted)

    def test_only_zeros_at_the_places(self):
        for size in range(2, 7):
            table = tuple(tuple(ZERO if i == j else ONE for j in range(size)) for i in range(size))
            self.assertEqual(signs_of(table), (1, size - 1))
        self.assertEqual(signs_of(((ZERO, ONE), (ONE, ZERO))), (1, 1))
        self.assertEqual(signs_of(((ZERO,) * 3,) * 3), (0, 0))
        table = ((ZERO, ZERO, ONE), (ZERO, ZERO, ZERO), (ONE, ZERO, ZERO))
        self.assertEqual(signs_of(table), (1, 1))
        self.assertTrue(is_change(table, change_of(table)[0]))

    def test_values_near_changes(self):
        table = ((ZERO, ONE), (ONE, ZERO))
        good = ((ONE, ONE), ((-1, 2), HALF))
        self.assertTrue(is_change(table, good))
        self.assertTrue(is_change(table, ((ONE, ONE), (ONE, LESS))))
        self.assertTrue(is_change(table, ((ONE, LESS), (ONE, ONE))))
        long = (10 ** 80, 1)
        self.assertTrue(is_change(table, ((long, long), (long, (-10 ** 80, 1)))))
        for wrong in (((ONE, ONE), (ONE, ONE)), ((ONE, ZERO), (ZERO, ONE)), ((ZERO, ZERO), (ONE, ONE)), (ONE, ONE),
                      [(ONE, ONE), (ONE, LESS)], ((ONE, ONE),), ((ONE, ONE), (ONE, LESS), (ONE, ONE)), (), None,
                      ((ONE, ONE, ONE), (ONE, LESS, ONE)), ((1, 1), (1, -1)), ((ONE, ONE), [ONE, LESS]),
                      ((ONE, ONE), (ONE, (-2, 2))), ((ONE, True), (ONE, LESS))):
            self.assertIs(is_change(table, wrong), False, wrong)
        for value in ODD:
            self.assertIs(is_change(((ONE,),), value), isinstance(value, tuple) and len(value) == 1
                          and isinstance(value[0], tuple) and len(value[0]) == 1 and is_number(0, value[0][0], None)
                          and value[0][0][0] != 0)
        # What can't be undone is no change, also of a table of zeros.
        self.assertFalse(is_change(((ZERO, ZERO), (ZERO, ZERO)), ((ONE, ONE), (ONE, ONE))))
        self.assertTrue(is_change(((ZERO, ZERO), (ZERO, ZERO)), ((ONE, ONE), (ONE, TWO))))


class Traces(Case):
    def test_trace_of(self):
        source = random.Random(3)
        for _ in range(25):
            size = source.randint(1, 2)
            forms, form = finite_forms(source, 0, size), random_form(source, 0, size, 3, 3, 3)
            table = table_of(0, size, forms, form)
            self.assertEqual(trace_of(size, forms, form), told(0, sum(Fraction(*table[i][i]) for i in range(len(table)))))
            products = standing(0, size, forms)
            found = trace_table(size, forms, form)
            for i, one in enumerate(products):
                for j, other in enumerate(products):
                    whole = times(0, form, times(0, term(0, one), term(0, other)))
                    if max(map(sum, whole), default=0) <= 12:
                        self.assertEqual(found[i][j], trace_of(size, forms, whole))

    def test_traces_are_sums_over_points(self):
        source = random.Random(4)
        for _ in range(20):
            rows = [[Fraction(source.randint(-2, 2), source.choice((1, 2))) for _ in range(source.randint(1, 3))]
                    for _ in range(source.randint(1, 2))]
            size = len(rows)
            forms = grid_forms([with_roots(*roots) for roots in rows])
            form = random_form(source, 0, size, 3, 3, 3)
            # Roots that stand twice count twice.
            wanted = sum(value_at(form, place) for place in product(*rows))
            self.assertEqual(trace_of(size, forms, form), told(0, wanted))

    def test_nothing_stands(self):
        one = ({(0, 0): ONE},)
        self.assertEqual((trace_of(2, one, LINE), trace_table(2, one, LINE)), (ZERO, ()))
        for call, args in ((complex_answer, ()), (real_answer, ()), (signed_answer, (LINE,))):
            claim, paper = call(2, one, *args)
            self.assertTrue(is_paper(claim, paper) and takes(claim, paper))
            self.assertEqual(claim[-1], 0)
            self.assertEqual(paper[:2], ((), ((), ())))


class Answers(Case):
    def check(self, answer):
        claim, paper = answer
        self.assertTrue(is_ascending(answer) and takes(claim, paper) and is_paper(claim, paper), claim)
        return claim

    def test_known_points(self):
        source = random.Random(5)
        for _ in range(25):
            size = source.randint(1, 3)
            rows, real, every = [], [], []
            for _ in range(size):
                roots = [Fraction(source.randint(-2, 2), source.choice((1, 2))) for _ in range(source.randint(0, 2))]
                pairs = source.randint(0 if roots else 1, 1) if size < 3 else (0 if roots else 1)
                # Some of the roots stand twice; t * t + n has two that are not real.
                twice = roots[:1] * (source.random() < 0.3)
                poly = poly_times(0, with_roots(*roots, *twice), *[made(0, [source.randint(1, 3), 0, 1])] * pairs)
                rows.append(poly)
                real.append(sorted(set(roots)))
                every.append(len(set(roots)) + 2 * pairs)
            forms = grid_forms(rows)
            points = list(product(*real))
            self.assertEqual(self.check(complex_answer(size, forms))[3], int(product_of(map(Fraction, every))))
            self.assertEqual(self.check(real_answer(size, forms))[3], len(points))
            form = random_form(source, 0, size, 2, 3, 3)
            signs = [value_at(form, place) for place in points]
            self.assertEqual(self.check(signed_answer(size, forms, form))[4:],
                             (sum(x > 0 for x in signs), sum(x < 0 for x in signs)))

    def test_forms_that_are_0_at_some_points(self):
        forms = grid_forms([with_roots(0, 1, 2), with_roots(-1, 1)])
        for form, counts in (({(1, 0): ONE}, (4, 0)), ({(0, 1): ONE}, (3, 3)), ({}, (0, 0)), (LINE, (4, 1)),
                             ({(1, 1): ONE}, (2, 2)), ({(0, 0): LESS}, (0, 6)), ({(2, 0): ONE, (1, 0): LESS}, (2, 0))):
            claim = self.check(signed_answer(2, forms, form))
            self.assertEqual((claim[3], claim[4:]), (form, counts))

    def test_points_with_square_roots(self):
        # a a = 2, b b = a: a above 0 has two real b, a below 0 none.
        forms = ({(2, 0): ONE, (0, 0): (-2, 1)}, {(0, 2): ONE, (1, 0): LESS})
        self.assertEqual(self.check(complex_answer(2, forms))[3], 4)
        self.assertEqual(self.check(real_answer(2, forms))[3], 2)
        self.assertEqual(self.check(signed_answer(2, forms, {(1, 0): ONE}))[4:], (2, 0))
        self.assertEqual(self.check(signed_answer(2, forms, {(0, 1): ONE}))[4:], (1, 1))
        self.assertEqual(self.check(signed_answer(2, forms, {(2, 0): ONE, (0, 0): (-2, 1)}))[4:], (0, 0))

    def test_random_forms(self):
        source = random.Random(6)
        for _ in range(25):
            size = source.randint(1, 2)
            forms = finite_forms(source, 0, size, 3) + tuple(
                random_form(source, 0, size, 1, 2, 2) for _ in range(source.randint(0, 1)))
            many = self.check(complex_answer(size, forms))[3]
            real = self.check(real_answer(size, forms))[3]
            self.assertTrue(0 <= real <= many <= len(standing(0, size, forms)) and (many - real) % 2 == 0)
            form = random_form(source, 0, size, 2, 3, 3)
            claim, paper = signed_answer(size, forms, form)
            above, below = self.check((claim, paper))[4:]
            self.assertLessEqual(above + below, real)
            # The signs of the opposite form are exchanged.
            turned = plus(0, {}, form, -1)
            self.assertEqual(signed_answer(size, forms, turned)[0][4:], (below, above))
            for wrong in ((above + 1, below), (above, below + 1), (below, above)):
                self.assertIs(takes(claim[:4] + wrong, paper), wrong == (above, below))

    def test_bounds(self):
        long = {(1,): (BIG, 1), (0,): (-1, BIG)}
        self.assertEqual(self.check(real_answer(1, (long,)))[3], 1)
        top = {(12,): ONE, (0,): LESS}
        self.assertEqual(self.check(complex_answer(1, (top,) * 6))[3], 12)
        self.assertEqual(self.check(real_answer(1, (top,)))[3], 2)
        for wrong in ((top,) * 7, [top], ({(13,): ONE},)):
            self.refuses(errors.InvalidForm, complex_answer, 1, wrong)

    def test_papers_near(self):
        claim, paper = real_answer(2, PAIR)
        products, tables, shown, change, undoing = paper
        for wrong in (paper[:4], paper + ((),), (products, tables, shown, undoing, change), list(paper),
                      (products, tables[::-1], shown, change, undoing), (products[::-1], tables, shown, change, undoing),
                      (products, tables, shown, change, change), (products, tables, shown, (), ()),
                      (products, tables, shown, change[:1], undoing[:1])):
            self.assertIs(takes(claim, wrong), is_paper(claim, wrong))
        # Any other change serves, too.
        other = tuple(tuple(told(0, 3 * Fraction(*x)) for x in row) for row in change)
        back = tuple(tuple(told(0, Fraction(*x) / 3) for x in row) for row in undoing)
        self.assertTrue(takes(claim, (products, tables, shown, other, back)))
        self.assertFalse(takes(claim, (products, tables, shown, other, undoing)))
