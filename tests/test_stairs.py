"""Stage 13: standing products, tables, least polys."""
import random
from fractions import Fraction
from itertools import product

from forms import are_forms, closed, divided, form_rule, forms_rule, head, is_ascending, judge_basis, judge_multiples
from forms import leads, mixed, plus, power, random_form, rank, size_rule, term, times, total
from helping import GROUND, HALF, ONE, TWO, ZERO, Case, read, told
from polys import is_monic, made, times as poly_times, value
from test_solving import judge_rank, times as table_times

from zeroorone import errors
from zeroorone.many.bases import reduced_basis
from zeroorone.points.stairs import finite_answer, least_poly_answer, standing, table_of, tables_answer, telling_mix
from zeroorone.points.stairs import thinned

GROUNDS = (0, 2, 5, 9973)
CIRCLE, LINE = {(2, 0): ONE, (0, 2): ONE, (0, 0): (-1, 1)}, {(1, 0): ONE, (0, 1): (-1, 1)}
PAIR, TWICE = (CIRCLE, LINE), ({(2,): ONE, (1,): (-2, 1), (0,): ONE},)
POINTS = [
    [(0,)], [(1,), (2,), (5,)], [(0, 0)], [(0, 0), (0, 1)], [(1, 0), (0, 1)], [(0, 0), (1, -1), (2, 2)],
    [(0, 0), (0, 1), (1, 0), (1, 1)], [(Fraction(1, 2), 1), (1, Fraction(1, 2)), (3, -2)],
    [(0, 0, 0), (1, 0, -1), (0, 1, -1)], [(1, 0, 0), (0, 1, 0), (0, 0, 1)], [(0, 0, 0), (0, 0, 1), (0, 1, 0), (1, 0, 0)],
]


def letter(size, index):
    return tuple(int(at == index) for at in range(size))


def forms_of(ground, *values):
    return tuple(closed(ground, value) for value in values)


def finite_forms(source, ground, size):
    """Forms in which each letter has a power as head by "deg", and more."""
    forms = []
    for index in range(size):
        many = source.randint(1, 2)
        low = random_form(source, ground, size, many - 1, 2)
        forms.append(plus(ground, term(ground, tuple(many * x for x in letter(size, index))), low))
    return tuple(forms) + tuple(random_form(source, ground, size, 2, 3) for _ in range(source.randint(0, 1)))


def keys_by_trying(size, heads):
    bound = max([max(key) for key in heads])
    keys = [key for key in product(range(bound + 1), repeat=size) if not any(leads(top, key) for top in heads)]
    return tuple(sorted(keys, key=lambda key: rank("deg", key)))


def put_in(ground, size, poly, form):
    result = {}
    for many, number in enumerate(poly):
        result = plus(ground, result, times(ground, power(ground, size, form, many), term(ground, (0,) * size,
                                                                                         read(ground, number))))
    return result


def judge_finite(case, claim, paper):
    """The paper for "finite" or "endless"."""
    kind, ground, size, forms = claim[:4]
    order, rows = paper[:2]
    case.assertTrue(is_ascending((claim, paper)) and order in ("lex", "deg"))
    judge_basis(case, ground, size, order, forms, rows, paper[2])
    heads = [head(order, row) for row in rows]
    powers = [any(sum(key) == key[index] for key in heads) for index in range(size)]
    if kind == "finite":
        case.assertTrue(len(claim) == 5 and len(paper) == 3 and all(powers))
        case.assertEqual(claim[4], len(keys_by_trying(size, heads)))
    else:
        case.assertTrue(kind == "endless" and len(claim) == 4 and len(paper) == 4 and 0 <= paper[3] < size)
        case.assertFalse(powers[paper[3]])


def judge_tables(case, claim, paper):
    kind, ground, size, forms, products, tables = claim
    rows, basis_paper, quotients = paper
    case.assertTrue(kind == "tables" and is_ascending((claim, paper)))
    judge_basis(case, ground, size, "deg", forms, rows, basis_paper)
    case.assertEqual(products, keys_by_trying(size, [head("deg", row) for row in rows]))
    case.assertEqual((len(tables), len(quotients)), (size, size))
    for index in range(size):
        case.assertEqual((len(tables[index]), len(quotients[index])), (len(products), len(products)))
        for key, row, shares in zip(products, tables[index], quotients[index]):
            case.assertTrue(are_forms(ground, size, shares, len(rows)) and len(row) == len(products))
            told_rest = total(ground, [times(ground, term(ground, lower), {(0,) * size: number})
                                       for lower, number in zip(products, row) if number != told(ground, 0)])
            whole = plus(ground, mixed(ground, shares, rows), told_rest)
            case.assertEqual(whole, times(ground, term(ground, key), term(ground, letter(size, index))))


def judge_least_poly(case, claim, paper):
    kind, ground, size, forms, form, poly = claim
    multiples, order, rows, basis_paper, quotients, rests, ranked = paper
    d = len(poly) - 1
    case.assertTrue(kind == "least poly" and is_monic(ground, poly) and is_ascending((claim, paper)))
    judge_multiples(case, ground, size, put_in(ground, size, poly, form), forms, multiples)
    judge_basis(case, ground, size, order, forms, rows, basis_paper)
    case.assertTrue(are_forms(ground, size, rests, d) and len(quotients) == d)
    for i in range(d):
        case.assertTrue(are_forms(ground, size, quotients[i], len(rows)))
        case.assertEqual(plus(ground, mixed(ground, quotients[i], rows), rests[i]), power(ground, size, form, i))
        case.assertFalse(any(leads(head(order, row), key) for row in rows for key in rests[i]))
    if d == 0:
        case.assertIsNone(ranked)
        return
    keys = sorted({key for one in rests for key in one}, key=lambda key: rank("deg", key))
    table = tuple(tuple(one.get(key, told(ground, 0)) for key in keys) for one in rests)
    judge_rank(case, ("rank", ground, table, d), ranked)


def at(form, point):
    value_there = Fraction(0)
    for key, number in form.items():
        part = Fraction(*number)
        for entry, exponent in zip(point, key):
            part *= Fraction(entry) ** exponent
        value_there += part
    return value_there


def forms_with_points(points):
    """Forms that are 0 at just these points, each letter's values, and what tells them apart."""
    size = len(points[0])
    forms = []
    for index in range(size):
        poly = poly_times(0, *[made(0, [-Fraction(x), 1]) for x in sorted({Fraction(p[index]) for p in points})])
        forms.append({tuple(k * x for x in letter(size, index)): n for k, n in enumerate(poly) if n != ZERO})
    grid = list(product(*[sorted({Fraction(p[index]) for p in points}) for index in range(size)]))
    wanted = {tuple(map(Fraction, p)) for p in points}
    others = {}
    for place in grid:
        if place not in wanted:
            others = plus(0, others, one_at(place, grid))
    return tuple(forms) + ((others,) if others else ())


def one_at(place, grid):
    """The form of low degree in each letter that is 1 at the place and 0 at the rest of the grid."""
    result = term(0, (0,) * len(place))
    for index, entry in enumerate(place):
        for further in sorted({p[index] for p in grid} - {entry}):
            key = letter(len(place), index)
            factor = closed(0, {key: 1 / (entry - further), (0,) * len(place): -further / (entry - further)})
            result = times(0, result, factor)
    return result


class Examples(Case):
    def test_examples(self):
        self.assertEqual(finite_answer(0, 2, PAIR)[0][4], 2)
        self.assertEqual(standing(0, 2, PAIR), ((0, 0), (0, 1)))
        self.assertEqual(table_of(0, 2, PAIR, {(1, 0): ONE}), (((0, 1), (1, 1)), ((1, 2), (0, 1))))
        self.assertEqual(least_poly_answer(0, 1, TWICE, {(1,): ONE})[0][5], ((1, 1), (-2, 1), (1, 1)))
        self.assertEqual(telling_mix(1, TWICE), (0, ((-1, 1), (1, 1)), (((1, 1),),)))
        self.assertEqual(self.refuses(errors.Refused, table_of, 0, 2, (LINE,), LINE).reason, ("endless",))

    def test_more_products_than_points(self):
        # [13.7]
        self.assertEqual(len(standing(0, 1, TWICE)), 2)
        self.assertEqual(thinned(1, TWICE), forms_of(0, {(1,): 1, (0,): -1}))


class Refusals(Case):
    def test_refusals(self):
        for ground in (0, 5):
            one = told(ground, 1)
            forms = ({(1, 0): one}, {(0, 2): one})
            start = (GROUND, size_rule(), forms_rule(ground, 2))
            for call in (finite_answer, standing, tables_answer):
                self.check_refusals(call, (ground, 2, forms), start)
            for call in (table_of, least_poly_answer):
                self.check_refusals(call, (ground, 2, forms, forms[0]), start + (form_rule(ground, 2),))
        for call in (thinned, telling_mix):
            self.check_refusals(call, (2, ({(1, 0): ONE}, {(0, 2): ONE})), (size_rule(), forms_rule(0, 2)))

    def test_bounds(self):
        top = {(12,): ONE}
        self.assertEqual(len(standing(0, 1, (top,) * 6)), 12)
        for wrong in ((top,) * 7, [top], ({(13,): ONE},), ({(1,): ZERO},)):
            for call in (finite_answer, standing, tables_answer):
                self.refuses(errors.InvalidForm, call, 0, 1, wrong)
            for call in (thinned, telling_mix):
                self.refuses(errors.InvalidForm, call, 1, wrong)
        self.refuses(errors.InvalidForm, table_of, 0, 1, (top,), {(13,): ONE})
        self.refuses(errors.InvalidNumber, thinned, 4, ())

    def test_errors_that_come_last(self):
        for forms in ((), ({},), (LINE,), ({(1, 1): ONE}, {(2, 0): ONE})):
            for call, args in ((standing, (0, 2, forms)), (table_of, (0, 2, forms, LINE)), (tables_answer, (0, 2, forms)),
                               (least_poly_answer, (0, 2, forms, LINE)), (thinned, (2, forms)), (telling_mix, (2, forms))):
                self.assertEqual(self.refuses(errors.Refused, call, *args).reason, ("endless",))
            self.refuses(errors.InvalidForm, table_of, 0, 2, forms, {(1,): ONE})
            self.assertEqual(finite_answer(0, 2, forms)[0], ("endless", 0, 2, forms))
        self.assertEqual(self.refuses(errors.Refused, telling_mix, 2, ({(0, 0): ONE},)).reason, ("nothing",))


class Finite(Case):
    def test_papers(self):
        source = random.Random(131)
        for ground in GROUNDS:
            kinds = set()
            for size in (1, 2, 3):
                for _ in range(5):
                    forms = finite_forms(source, ground, size)
                    for told_forms in (forms, forms[:1], forms[1:], forms + (term(ground, (0,) * size),)):
                        claim, paper = finite_answer(ground, size, told_forms)
                        self.assertEqual(claim[1:4], (ground, size, told_forms))
                        judge_finite(self, claim, paper)
                        kinds.add(claim[0])
                        if claim[0] == "finite":
                            self.assertEqual(len(standing(ground, size, told_forms)), claim[4])
            self.assertEqual(kinds, {"finite", "endless"})

    def test_known_numbers(self):
        for ground in GROUNDS:
            self.assertEqual(finite_answer(ground, 2, (term(ground, (0, 0)),))[0][4], 0)
            self.assertEqual(standing(ground, 2, (term(ground, (0, 0)),)), ())
            powers = forms_of(ground, {(2, 0): 1}, {(0, 3): 1})
            self.assertEqual(standing(ground, 2, powers), ((0, 0), (0, 1), (1, 0), (0, 2), (1, 1), (1, 2)))
            self.assertEqual(standing(ground, 2, powers + forms_of(ground, {(1, 1): 1})), ((0, 0), (0, 1), (1, 0), (0, 2)))

    def test_one_product_alone(self):
        place = forms_of(0, {(1, 0): 1, (0, 0): -2}, {(0, 1): 1, (0, 0): 3})
        self.assertEqual(standing(0, 2, place), ((0, 0),))
        self.assertEqual(table_of(0, 2, place, {(2, 0): ONE, (0, 1): ONE}), ((ONE,),))
        self.assertEqual(telling_mix(2, place), (0, ((-2, 1), ONE), ((TWO,), ((-3, 1),))))


class Tables(Case):
    def test_papers(self):
        source = random.Random(132)
        for ground in GROUNDS:
            for size in (1, 2, 3):
                for _ in range(3):
                    forms = finite_forms(source, ground, size)
                    claim, paper = tables_answer(ground, size, forms)
                    self.assertEqual(claim[:4], ("tables", ground, size, forms))
                    judge_tables(self, claim, paper)
                    self.assertEqual(claim[4], standing(ground, size, forms))
                    for index in range(size):
                        self.assertEqual(claim[5][index], table_of(ground, size, forms, term(ground, letter(size, index))))

    def test_sums_and_products(self):
        # [13.3]
        source = random.Random(133)
        for ground in GROUNDS:
            for size in (1, 2, 3):
                for _ in range(3):
                    forms = finite_forms(source, ground, size)
                    rows = reduced_basis(ground, size, "deg", forms)
                    keys = standing(ground, size, forms)
                    one, other = (random_form(source, ground, size, 2, 3) for _ in range(2))
                    tables = [table_of(ground, size, forms, form) for form in (one, other)]
                    for form, table in zip((one, other), tables):
                        for key, row in zip(keys, table):
                            left = divided(ground, times(ground, form, term(ground, key)), rows, "deg")[1]
                            self.assertEqual(tuple(left.get(lower, told(ground, 0)) for lower in keys), row)
                    if keys:
                        self.assertEqual(table_of(ground, size, forms, times(ground, one, other)), table_times(ground, *tables))
                        self.assertEqual(table_of(ground, size, forms, plus(ground, one, other)), tuple(
                            tuple(told(ground, read(ground, x) + read(ground, y)) for x, y in zip(*pair))
                            for pair in zip(*tables)))

    def test_forms_within(self):
        self.assertEqual(table_of(0, 2, PAIR, times(0, LINE, CIRCLE)), ((ZERO, ZERO), (ZERO, ZERO)))
        self.assertEqual(table_of(0, 2, PAIR, {}), ((ZERO, ZERO), (ZERO, ZERO)))

    def test_nothing_stands(self):
        forms = ({(0, 0): HALF},)
        self.assertEqual(table_of(0, 2, forms, LINE), ())
        claim, paper = tables_answer(0, 2, forms)
        self.assertEqual(claim[4:], ((), ((), ())))
        judge_tables(self, claim, paper)


class LeastPolys(Case):
    def check(self, ground, size, forms, form):
        claim, paper = least_poly_answer(ground, size, forms, form)
        self.assertEqual(claim[:5], ("least poly", ground, size, forms, form))
        judge_least_poly(self, claim, paper)
        return claim[5]

    def test_papers(self):
        source = random.Random(134)
        for ground in GROUNDS:
            for size in (1, 2, 3):
                for _ in range(4):
                    forms = finite_forms(source, ground, size)
                    poly = self.check(ground, size, forms, random_form(source, ground, size, 2, 3))
                    self.assertLessEqual(len(poly) - 1, len(standing(ground, size, forms)))

    def test_known_polys(self):
        self.assertEqual(self.check(0, 2, PAIR, {(0, 0): ONE}), ((-1, 1), ONE))
        self.assertEqual(self.check(0, 2, PAIR, {(0, 0): HALF}), ((-1, 2), ONE))
        self.assertEqual(self.check(0, 2, PAIR, {(1, 0): ONE}), ((-1, 2), ZERO, ONE))
        self.assertEqual(self.check(0, 2, PAIR, LINE), (ZERO, ONE))
        self.assertEqual(self.check(0, 2, PAIR, {}), (ZERO, ONE))
        self.assertEqual(self.check(0, 2, ({(0, 0): ONE},), LINE), (ONE,))
        self.assertEqual(self.check(5, 1, ({(3,): 1},), {(1,): 2}), (0, 0, 0, 1))
        self.assertEqual(self.check(5, 1, ({(3,): 1},), {(2,): 1}), (0, 0, 1))

    def test_values_at_points(self):
        # [13.4]
        for points in POINTS:
            size = len(points[0])
            forms = forms_with_points(points)
            form = closed(0, {(1,) * size: 1, letter(size, 0): 2, (0,) * size: 1})
            values = sorted({at(form, point) for point in points})
            self.assertEqual(self.check(0, size, forms, form), poly_times(0, *[made(0, [-x, 1]) for x in values]))


class Thinned(Case):
    def test_points(self):
        # [13.5], [13.6]
        for points in POINTS:
            size = len(points[0])
            forms = forms_with_points(points)
            squares = tuple(times(0, form, form) for form in forms)
            for told_forms in (forms, squares):
                if forms_rule(0, size)[2](told_forms):
                    self.check(size, points, told_forms)

    def check(self, size, points, forms):
        rows = thinned(size, forms)
        self.assertTrue(is_ascending(rows))
        self.assertEqual(rows, reduced_basis(0, size, "deg", forms_with_points(points)))
        self.assertTrue(all(at(row, point) == 0 for row in rows for point in points))
        keys = standing_keys(rows, size)
        self.assertEqual(len(keys), len(points))
        k, poly, values = telling_mix(size, forms)
        mixes = [[sum(Fraction(entry) * number ** at_letter for at_letter, entry in enumerate(point)) for point in points]
                 for number in range(k + 1)]
        self.assertEqual([len(set(row)) == len(points) for row in mixes], [False] * k + [True])
        self.assertEqual(poly, poly_times(0, *[made(0, [-x, 1]) for x in sorted(mixes[k])]))
        self.assertEqual(len(values), size)
        for index, one in enumerate(values):
            self.assertLess(len(one), len(poly))
            self.assertEqual([value(0, one, told(0, x)) for x in mixes[k]], [told(0, Fraction(p[index])) for p in points])

    def test_points_that_are_no_fractions(self):
        source = random.Random(135)
        for size in (1, 2, 3):
            for _ in range(4):
                forms = finite_forms(source, 0, size)
                rows = thinned(size, forms)
                self.assertTrue(all(divided(0, form, rows, "deg")[1] == {} for form in forms))
                keys = standing_keys(rows, size)
                if not keys:
                    self.refuses(errors.Refused, telling_mix, size, forms)
                    continue
                k, poly, values = telling_mix(size, forms)
                self.assertEqual(len(poly) - 1, len(keys))
                mix = closed(0, {letter(size, index): k ** index for index in range(size)})
                self.assertEqual(divided(0, put_in(0, size, poly, mix), rows, "deg")[1], {})
                for index, one in enumerate(values):
                    left = plus(0, put_in(0, size, one, mix), term(0, letter(size, index)), -1)
                    self.assertEqual(divided(0, left, rows, "deg")[1], {})
                for number in range(k):
                    lower = closed(0, {letter(size, index): number ** index for index in range(size)})
                    self.assertLess(len(least_poly_answer(0, size, rows, lower)[0][5]) - 1, len(keys))

    def test_little_forms(self):
        self.assertEqual(thinned(2, ({(0, 0): HALF},)), ({(0, 0): ONE},))
        self.assertEqual(thinned(2, PAIR), reduced_basis(0, 2, "deg", PAIR))
        self.assertEqual(telling_mix(2, PAIR), (0, ((-1, 2), ZERO, ONE), ((ZERO, ONE), (ZERO, ONE))))


def standing_keys(rows, size):
    return keys_by_trying(size, [head("deg", row) for row in rows])
