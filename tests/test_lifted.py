"""Stage 8: parts over the fractions."""
import random
from fractions import Fraction
from itertools import combinations, product
from math import gcd

from helping import BIG, HALF, ODD, ONE, TWO, ZERO, Case, between, is_integer, told
from polys import common, halves, is_monic, judge_parted, judge_parts, judge_unsplit_modulo, made, monic, poly_rule
from polys import random_poly, slope, times, value

from zeroorone import errors
from zeroorone.letter.lifted import fitting_prime, fraction_parts, fraction_parts_answer, fraction_roots
from zeroorone.letter.lifted import fraction_unsplit_answer, lifted, size_bound, whole_of

SQUARE_TWO = ((-2, 1), (0, 1), (1, 1))
FOUR = ((1, 1), (0, 1), (0, 1), (0, 1), (1, 1))
POLY = (errors.InvalidPoly, None, poly_rule(0)[2])


def polys(*rows):
    return [made(0, row) for row in rows]


def is_row(value):
    return (isinstance(value, tuple) and 2 <= len(value) <= 13 and all(is_integer(x) for x in value)
            and value[-1] != 0)


def is_prime(number):
    return number >= 2 and all(number % k for k in range(2, int(number ** 0.5) + 1))


def whole_row(poly):
    """The whole row by Fractions."""
    values = [Fraction(*number) for number in poly]
    bottom = 1
    for one in values:
        bottom = bottom * one.denominator // gcd(bottom, one.denominator)
    row = [int(one * bottom) for one in values]
    share = gcd(*row) if row[-1] > 0 else -gcd(*row)
    return tuple(number // share for number in row)


def modulo(prime, row):
    return made(prime, row)


def row_product(rows, modulus):
    result = [1]
    for row in rows:
        longer = [0] * (len(result) + len(row) - 1)
        for i, x in enumerate(result):
            for j, y in enumerate(row):
                longer[i + j] = (longer[i + j] + x * y) % modulus
        result = longer
    return result


def small(number, modulus):
    number %= modulus
    return number - modulus if 2 * number > modulus else number


def judge_unsplit(case, f, paper):
    """The paper of [8.5]."""
    case.assertTrue(is_monic(0, f))
    n = len(f) - 1
    if n == 1:
        case.assertEqual(paper, ())
        return
    q, k, lifts, papers = paper
    whole = whole_row(f)
    c = whole[-1]
    modulus = q ** k
    case.assertTrue(is_integer(q) and is_prime(q) and q < 100000 and c % q != 0 and is_integer(k) and k >= 1)
    case.assertGreater(modulus, 2 * 2 ** n * sum(abs(number) for number in whole))
    case.assertTrue(isinstance(lifts, tuple) and 1 <= len(lifts) <= 12 and len(papers) == len(lifts))
    for row in lifts:
        case.assertTrue(len(row) >= 2 and row[-1] == 1 and all(is_integer(x, None) and 0 <= x < modulus for x in row))
    made_row = row_product(lifts, modulus)
    case.assertEqual([c * number % modulus for number in made_row], [number % modulus for number in whole])
    below = [modulo(q, row) for row in lifts]
    case.assertEqual(len(set(below)), len(below))
    for row, shown in zip(below, papers):
        judge_unsplit_modulo(case, q, row, shown)
    for many in range(1, len(lifts) // 2 + 1):
        for lot in combinations(lifts, many):
            tried = made(0, [small(c * number, modulus) for number in row_product(lot, modulus)])
            case.assertNotEqual(halves(0, f, tried)[1], ())


def random_fractions(source, degree, size=9):
    return random_poly(source, 0, degree, size)


class Examples(Case):
    def test_examples(self):
        self.assertEqual(fraction_unsplit_answer(FOUR)[0][0], "unsplit")
        self.assertEqual(fraction_roots(((1, 1), (-3, 1), (2, 1))), ((1, 2), (1, 1)))
        self.assertEqual(whole_of(((1, 2), (0, 1), (-3, 4))), ((-1, 4), (-2, 0, 3)))
        self.assertEqual((size_bound((-2, 0, 3)), fitting_prime(SQUARE_TWO)), (20, 3))
        self.assertEqual(lifted((-2, 0, 1), 7, ((3, 1), (4, 1)), 2), ((10, 1), (39, 1)))
        self.refuses(errors.InvalidOperation, fraction_unsplit_answer, ((1, 1), (2, 1)))

    def test_parted_modulo_each_prime(self):
        # [8.6], the second one with four parts of degree 2 at the most modulo each prime.
        for f in (FOUR, *polys([576, 0, -960, 0, 352, 0, -40, 0, 1], [1, 0, -10, 0, 1], [9, 0, -2, 0, 1])):
            claim, paper = fraction_unsplit_answer(f)
            self.assertEqual(claim, ("unsplit", 0, f))
            judge_unsplit(self, f, paper)
            self.assertGreater(len(paper[2]), 1)

    def test_a_lot_that_divides_modulo_the_power_alone(self):
        q, k, lifts, _ = fraction_unsplit_answer(FOUR)[1]
        one = row_product(lifts[:1], q ** k)
        self.assertEqual(row_product([one, *lifts[1:]], q ** k), [x % q ** k for x in (1, 0, 0, 0, 1)])
        self.assertNotEqual(halves(0, FOUR, made(0, [small(x, q ** k) for x in one]))[1], ())


class Refusals(Case):
    def test_refusals(self):
        for call in (whole_of, fitting_prime, fraction_parts, fraction_parts_answer, fraction_unsplit_answer,
                     fraction_roots):
            self.check_refusals(call, (SQUARE_TWO,), (POLY,))
        row = (errors.InvalidPoly, None, is_row)
        self.check_refusals(size_bound, ((-2, 0, 3),), (row,))
        prime = (errors.InvalidNumber, "given", lambda x: is_integer(x) and x < 10000 and is_prime(x))
        are_parts = (errors.InvalidPoly, None, lambda value: value == ((0, 1),))
        good = ((-2, 0, 1), 7, ((3, 1), (4, 1)), 2)
        self.check_refusals(lifted, good, (row, prime, are_parts, between(1, 200)))

    def test_bounds(self):
        for row in ((1, 1), (0,) * 12 + (-1,), (BIG, -BIG), (-2, 3)):
            self.assertEqual(size_bound(row), 2 ** (len(row) - 1) * sum(abs(x) for x in row))
        for row in ((1,), (0,) * 13 + (1,), (BIG + 1, 1), (1, 0), (1, True), [1, 2], ()):
            self.refuses(errors.InvalidPoly, size_bound, row)
            self.refuses(errors.InvalidPoly, lifted, row, 4, 4, 4)
        top = (ZERO,) * 12 + (ONE,)
        self.assertEqual(whole_of(top), (ONE, (0,) * 12 + (1,)))
        self.assertEqual(fraction_parts(top), ((((0, 1), (1, 1)), 12),))
        for call in (whole_of, fitting_prime, fraction_parts, fraction_unsplit_answer, fraction_roots):
            for wrong in ((ZERO,) + top, (0, 1), (ONE, ZERO), ((2, 2),), ((True, 1),), ([1, 1],), [ONE]):
                self.refuses(errors.InvalidPoly, call, wrong)

    def test_lifted(self):
        whole = (-2, 0, 1)
        for prime in (4, 1, 0, -7, 10007, True, None, (7,)):
            self.refuses(errors.InvalidNumber, lifted, whole, prime, None, None)
        self.assertEqual(self.refuses(errors.InvalidNumber, lifted, (1, 0, 14), 7, ((3, 1), (4, 1)), 2).given, 7)
        for parts in ((), [(3, 1), (4, 1)], ((3, 1), (4, 2)), ((1,), (3, 1)), ((7, 1), (4, 1)), ((3, True), (4, 1)),
                      ((-4, 1), (4, 1)), ((), (4, 1)), (3, 1), ((3, 1), [4, 1])):
            self.refuses(errors.InvalidPoly, lifted, whole, 7, parts, 0)
        for many in (0, 201, True, None, -1):
            self.refuses(errors.InvalidNumber, lifted, whole, 7, ((3, 1), (3, 1)), many)
        # A wrong product, parts with something in common, too few, too many.
        for row, parts in ((whole, ((3, 1), (3, 1))), ((2, 2, 1), ((3, 1), (4, 1))), ((9, 6, 1), ((3, 1), (3, 1))),
                           (whole, ((3, 1),)), (whole, ((3, 1), (4, 1), (0, 1))), (whole, ((0,) * 13 + (1,),))):
            self.refuses(errors.InvalidOperation, lifted, row, 7, parts, 2)
        # Products that are longer or shorter than the row, and equal to it as far as both go.
        self.refuses(errors.InvalidOperation, lifted, (3, 1, 1), 7, ((3, 1),), 2)
        self.refuses(errors.InvalidOperation, lifted, (0, 1, 1), 7, ((0, 1), (3, 1), (5, 1)), 2)
        self.assertEqual(lifted((9, 6, 1), 7, ((2, 6, 1),), 200), ((9, 6, 1),))

    def test_errors_that_come_last(self):
        for call in (whole_of, fraction_parts, fraction_parts_answer, fraction_roots):
            self.refuses(errors.InvalidOperation, call, ())
        square = times(0, SQUARE_TWO, SQUARE_TWO)
        for wrong in ((), (ONE,), (HALF,), square):
            self.refuses(errors.InvalidOperation, fitting_prime, wrong)
        for wrong in ((), (ONE,), (ZERO, TWO), (ONE, HALF)):
            self.refuses(errors.InvalidOperation, fraction_unsplit_answer, wrong)
        self.assertEqual(fitting_prime((ONE, TWO)), 3)


class WholeRows(Case):
    def test_whole_rows(self):
        source = random.Random(81)
        for _ in range(60):
            f = random_fractions(source, source.randint(0, 12), 40)
            number, row = whole_of(f)
            self.assertTrue(row[-1] > 0 and gcd(*row) == 1)
            self.assertEqual(tuple(told(0, Fraction(*number) * x) for x in row), f)
            self.assertEqual(row, whole_row(f))
        self.assertEqual(whole_of(((-BIG, 1), (BIG, BIG - 1)))[0], told(0, Fraction(BIG, BIG - 1)))

    def test_products_of_whole_rows_are_whole(self):
        source = random.Random(82)
        for _ in range(20):
            f, g = random_fractions(source, 3), random_fractions(source, 4)
            rows = made(0, whole_row(f)), made(0, whole_row(g))
            self.assertEqual(whole_of(times(0, f, g))[1], tuple(x[0] for x in times(0, *rows)))

    def test_sizes(self):
        # [8.2]
        source = random.Random(83)
        for _ in range(40):
            f, g = random_fractions(source, source.randint(1, 4)), random_fractions(source, source.randint(1, 4))
            whole, part = whole_of(times(0, f, g))[1], whole_of(f)[1]
            bound = size_bound(whole)
            self.assertEqual(bound, 2 ** (len(whole) - 1) * sum(map(abs, whole)))
            self.assertTrue(all(abs(x) * whole[-1] <= bound * part[-1] for x in part))

    def test_the_least_prime_that_fits(self):
        source = random.Random(84)
        fractions = [random_fractions(source, source.randint(1, 5)) for _ in range(30)]
        for f in fractions + polys([30, 0, 1], [-1, 0, 2310], [1, 30030], [6, 11, 6, 1]):
            if common(0, f, slope(0, f)) != (ONE,):
                continue
            whole = whole_row(f)
            fit = [q for q in range(2, 200) if is_prime(q) and whole[-1] % q
                   and common(q, modulo(q, whole), slope(q, modulo(q, whole))) == (1,)]
            self.assertEqual(fitting_prime(f), fit[0])


class Lifts(Case):
    def test_lifts(self):
        source = random.Random(85)
        for prime in (2, 3, 7, 101, 9973):
            for _ in range(12):
                many = source.randint(1, 3)
                parts = []
                while len(parts) < many:
                    part = tuple(source.randrange(prime) for _ in range(source.randint(1, 3))) + (1,)
                    if all(common(prime, part, other) == (1,) for other in parts):
                        parts.append(part)
                    elif prime == 2:
                        many -= 1
                c = source.choice([x for x in range(-20, 20) if x % prime])
                row = [c * x % prime + prime * source.randint(-9, 9) for x in times(prime, *parts)]
                row[-1] = c
                k = source.choice((1, 2, 3, 10, 200))
                self.check_lifts(tuple(row), prime, tuple(parts), k)

    def check_lifts(self, whole, prime, parts, k):
        found = lifted(whole, prime, parts, k)
        modulus = prime ** k
        self.assertEqual([modulo(prime, row) for row in found], list(parts))
        for row, part in zip(found, parts):
            self.assertTrue(len(row) == len(part) and row[-1] == 1 and all(0 <= x < modulus for x in row))
        self.assertEqual([whole[-1] * x % modulus for x in row_product(found, modulus)], [x % modulus for x in whole])

    def test_there_is_just_one(self):
        for k in (2, 3):
            rows = [(c, 1) for c in range(3 ** k)]
            fit = [pair for pair in product(rows, repeat=2) if (pair[0][0] % 3, pair[1][0] % 3) == (1, 2)
                   and row_product(pair, 3 ** k) == [5 % 3 ** k, 0, 1]]
            self.assertEqual([lifted((5, 0, 1), 3, ((1, 1), (2, 1)), k)], fit)


class Parts(Case):
    def judge(self, f):
        claim, paper = fraction_parts_answer(f)
        self.assertEqual(claim[:3], ("parts", 0, f))
        judge_parts(self, claim, paper, judge_unsplit)
        self.assertEqual(fraction_parts(f), claim[3])
        return claim[3]

    def test_random_products(self):
        source = random.Random(86)
        for _ in range(25):
            f = random_fractions(source, source.randint(0, 1))
            while len(f) < 7:
                part = random_fractions(source, source.randint(1, 3))
                f = times(0, f, *[part] * source.randint(1, 2))
            self.judge(f)

    def test_known_parts(self):
        unsplit = polys([-2, 0, 1], [1, 1, 1], [2, 2, 0, 1], [1, 0, 0, 0, 1], [Fraction(-3, 7), 1], [0, 1])
        for lot in [[0, 1, 2, 3], [0, 0, 3, 4], [5] * 6 + [4] * 6, [1, 1, 1, 0, 0], [4, 5, 2]]:
            f = times(0, ((-6, 5),), *[unsplit[k] for k in lot])
            row = sorted([(unsplit[k], lot.count(k)) for k in set(lot)], key=lambda pair: (len(pair[0]), pair[0]))
            self.assertEqual(self.judge(f), tuple(row))

    def test_many_roots(self):
        f = times(0, *polys(*[[Fraction(k - 5, k % 3 + 1), 1] for k in range(12)]))
        self.assertEqual(len(self.judge(f)), 12 - sum(1 for k in range(12) if Fraction(k - 5, k % 3 + 1) in
                                                     [Fraction(j - 5, j % 3 + 1) for j in range(k)]))
        cyclic = made(0, [-1] + [0] * 11 + [1])
        self.assertEqual([len(part) - 1 for part, _ in self.judge(cyclic)], [1, 1, 2, 2, 2, 4])

    def test_long_integers(self):
        source = random.Random(87)
        f = times(0, random_fractions(source, 2, 10 ** 14), random_fractions(source, 3, 10 ** 14))
        self.assertEqual(sum(many for _, many in self.judge(f)), 2)
        f = tuple(told(0, Fraction(source.randint(-BIG, BIG), source.randint(1, BIG))) for _ in range(13))
        f = tuple((x[0], x[1]) for x in f)
        self.judge(f)

    def test_a_power_that_is_the_bound(self):
        # 2 B is 32 here, and the prime 2 fits.
        f = made(0, [2, 1, 1])
        claim, paper = fraction_unsplit_answer(f)
        self.assertEqual((claim[0], paper[:2]), ("unsplit", (2, 6)))
        judge_unsplit(self, f, paper)

    def test_low_degrees(self):
        self.assertEqual(fraction_parts_answer((HALF,)), (("parts", 0, (HALF,), ()), ()))
        self.assertEqual(fraction_parts_answer((ONE, TWO)), (("parts", 0, (ONE, TWO), ((((1, 2), (1, 1)), 1),)), ((),)))
        self.assertEqual(fraction_unsplit_answer((HALF, ONE)), (("unsplit", 0, (HALF, ONE)), ()))

    def test_both_claims(self):
        source = random.Random(88)
        kinds = []
        for _ in range(30):
            f = monic(0, times(0, random_fractions(source, source.randint(1, 4)),
                               random_fractions(source, source.randint(0, 2))))
            claim, paper = fraction_unsplit_answer(f)
            self.assertEqual(claim[1:], (0, f))
            kinds.append(claim[0])
            if claim[0] == "unsplit":
                judge_unsplit(self, f, paper)
            else:
                judge_parted(self, claim, paper)
        self.assertTrue(kinds.count("unsplit") > 4 and kinds.count("parted") > 4)
        judge_parted(self, *fraction_unsplit_answer(times(0, FOUR, FOUR)))

    def test_roots(self):
        source = random.Random(89)
        for _ in range(30):
            wanted = {Fraction(source.randint(-9, 9), source.randint(1, 9)) for _ in range(source.randint(0, 5))}
            f = times(0, made(0, [source.randint(1, 9)]), *polys(*[[-x, 1] for x in wanted]), *[SQUARE_TWO])
            if wanted:
                f = times(0, f, made(0, [-min(wanted), 1]))
            self.assertEqual(fraction_roots(f), tuple(told(0, x) for x in sorted(wanted)))
            self.assertTrue(all(value(0, f, root) == ZERO for root in fraction_roots(f)))
        self.assertEqual(fraction_roots((ONE,)), ())
        # By value, not as pairs compare.
        self.assertEqual(fraction_roots(times(0, *polys([Fraction(-5, 9), 1], [-1, 2], [2, 3]))),
                         ((-2, 3), (1, 2), (5, 9)))

    def test_odd_values(self):
        for wrong in ODD:
            if not POLY[2](wrong):
                self.refuses(errors.InvalidPoly, fraction_parts, wrong)
