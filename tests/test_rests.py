"""Stage 6: polys and rests."""
import random
from fractions import Fraction
from itertools import product

from helping import BIG, GROUND, HALF, LESS, ODD, ONE, TWO, ZERO, Case, between, is_integer, is_ground, is_number
from helping import is_poly, number_rule, random_number, read, told
from polys import any_poly, are_polys, is_monic, made, plus, poly_rule, random_poly, slope, times, value

from zeroorone import errors
from zeroorone.letter import rests
from zeroorone.letter.rests import common_answer, derived, join_answer, mix_answer, monic_of, poly_divided, poly_less
from zeroorone.letter.rests import poly_power, poly_product, poly_scaled, poly_sum, resultant_answer, shifted
from zeroorone.letter.rests import square_answer, value_at

GROUNDS = (0, 2, 3, 5, 13, 9973)


def judge_common(case, claim, paper):
    kind, ground, f, g, h = claim
    u, v, c, d = paper
    case.assertTrue(kind == "common" and are_polys(ground, (h,) + paper))
    case.assertTrue(h == () or is_monic(ground, h))
    case.assertEqual(plus(ground, times(ground, u, f), times(ground, v, g)), h)
    case.assertEqual((times(ground, c, h), times(ground, d, h)), (f, g))


def judge_mixed(case, claim, paper):
    kind, ground, f, g, e = claim
    case.assertTrue(are_polys(ground, paper))
    if kind == "mixed":
        u, v = paper
        case.assertEqual(plus(ground, times(ground, u, f), times(ground, v, g)), e)
    else:
        h, c, d, q, r = paper
        case.assertEqual(kind, "never mixed")
        case.assertEqual((times(ground, c, h), times(ground, d, h)), (f, g))
        case.assertEqual(plus(ground, times(ground, q, h), r), e)
        case.assertTrue(r != () and len(r) < len(h))
    return kind


def judge_joined(case, claim, paper):
    kind, ground, pairs = claim
    if kind == "joined":
        f, quotients = paper
        case.assertTrue(are_polys(ground, (f,)) and are_polys(ground, quotients))
        case.assertEqual(len(quotients), len(pairs))
        for q, (m, r) in zip(quotients, pairs):
            case.assertEqual(plus(ground, times(ground, q, m), r), f)
    else:
        i, j, h, c, d, q, s = paper
        case.assertEqual(kind, "never joined")
        case.assertTrue(is_integer(i) and is_integer(j) and 0 <= i < j < len(pairs) and are_polys(ground, paper[2:]))
        (m, r), (n, z) = pairs[i], pairs[j]
        case.assertEqual((times(ground, c, h), times(ground, d, h)), (m, n))
        case.assertEqual(plus(ground, times(ground, q, h), s), plus(ground, r, z, -1))
        case.assertTrue(s != () and len(s) < len(h))
    return kind


def judge_square(case, claim, paper):
    kind, ground, f, rows = claim
    own, pairs = paper
    case.assertEqual(kind, "square parts")
    case.assertTrue(isinstance(rows, tuple) and isinstance(own, tuple) and isinstance(pairs, tuple))
    case.assertEqual([e for _, e in rows], sorted({e for _, e in rows}))
    whole = (f[-1],)
    for g, e in rows:
        case.assertTrue(is_integer(e) and e >= 1 and is_poly(ground, g, None, None))
        case.assertTrue(is_monic(ground, g) and len(g) >= 2)
        whole = times(ground, whole, *[g] * e)
    case.assertEqual(whole, f)
    one = made(ground, [1])
    case.assertEqual(len(own), len(rows))
    for (g, _), (u, v) in zip(rows, own):
        case.assertTrue(are_polys(ground, (u, v)))
        case.assertEqual(plus(ground, times(ground, u, g), times(ground, v, slope(ground, g))), one)
    both = [(rows[i][0], rows[j][0]) for i in range(len(rows)) for j in range(i + 1, len(rows))]
    case.assertEqual(len(pairs), len(both))
    for (g, k), (u, v) in zip(both, pairs):
        case.assertTrue(are_polys(ground, (u, v)))
        case.assertEqual(plus(ground, times(ground, u, g), times(ground, v, k)), one)


def judge_resultant(case, claim, paper):
    kind, ground, f, g, s = claim
    case.assertTrue(kind == "resultant" and is_number(ground, s, None) and are_polys(ground, paper))
    factor = 1
    left = list(paper)
    while len(g) > 1:
        m, n = len(f) - 1, len(g) - 1
        r = plus(ground, f, times(ground, left.pop(0), g), -1)
        case.assertLess(len(r), len(g))
        if r == ():
            factor = 0
            break
        factor = factor * read(ground, g[-1]) ** (m - len(r) + 1) * (-1) ** (m * n)
        f, g = g, r
    if g and factor:
        factor *= read(ground, g[-1]) ** (len(f) - 1)
    case.assertEqual((left, told(ground, factor)), ([], s))


def sylvester(ground, f, g):
    """The resultant as the determinant of shifted rows."""
    m, n = len(f) - 1, len(g) - 1
    rows = []
    for poly, many in ((f, n), (g, m)):
        high = [Fraction(read(ground, number)) for number in reversed(poly)]
        rows += [[0] * k + high + [0] * (m + n - k - len(high)) for k in range(many)]
    sign, result = 1, Fraction(1)
    for at in range(m + n):
        found = next((i for i in range(at, m + n) if rows[i][at] != 0), None)
        if found is None:
            return told(ground, 0)
        if found != at:
            rows[at], rows[found], sign = rows[found], rows[at], -sign
        result *= rows[at][at]
        for i in range(at + 1, m + n):
            share = rows[i][at] / rows[at][at]
            rows[i] = [x - share * y for x, y in zip(rows[i], rows[at])]
    return told(ground, sign * result)


class Parameters(Case):
    def test_constants(self):
        self.assertEqual((rests.MAX_DEGREE, rests.MOST_PAIRS), (12, 4))

    def test_is_poly_takes_every_value(self):
        for ground in (0, 2, 5):
            for odd in ODD:
                self.assertIs(rests.is_poly(ground, odd), is_poly(ground, odd, None), (ground, odd))
                self.assertIs(rests.is_poly(ground, (odd,)), is_poly(ground, (odd,), None), (ground, odd))
            self.assertIs(rests.is_poly(ground, (told(ground, 1),) * 300), True)
            self.assertIs(rests.is_poly(ground, (told(ground, 0),)), False)
        for odd in ODD:
            if not is_ground(odd):
                self.assertIs(self.refuses(errors.InvalidGround, rests.is_poly, odd, ()).value, odd)
        self.assertEqual([rests.is_poly(0, ((BIG, 1),)), rests.is_poly(0, ((BIG + 1, 1),)), rests.is_poly(0, (1,)),
                          rests.is_poly(2, (True,)), rests.is_poly(2, [1])], [True, False, False, False, False])

    def test_first_wrong_argument_is_told(self):
        for ground, poly in ((0, (ONE, HALF)), (5, (1, 2))):
            rule = poly_rule(ground)
            number = number_rule(ground)
            for call in (poly_sum, poly_less, poly_product, poly_divided, common_answer, resultant_answer):
                self.check_refusals(call, (ground, poly, poly), (GROUND, rule, rule))
            self.check_refusals(mix_answer, (ground, poly, poly, poly), (GROUND, rule, rule, rule))
            for call in (poly_scaled, value_at, shifted):
                self.check_refusals(call, (ground, poly, poly[0]), (GROUND, rule, number))
            self.check_refusals(poly_power, (ground, poly, 3), (GROUND, rule, between(0, 12)))
            for call in (derived, monic_of, square_answer):
                self.check_refusals(call, (ground, poly), (GROUND, rule))
            pairs = (errors.InvalidPoly, None, lambda odd: isinstance(odd, tuple) and 1 <= len(odd) <= 4 and all(
                isinstance(p, tuple) and len(p) == 2 and is_poly(ground, p[0]) and p[0] and is_poly(ground, p[1])
                for p in odd))
            self.check_refusals(join_answer, (ground, ((poly, poly),)), (GROUND, pairs))

    def test_degree_12_and_13(self):
        for ground in (0, 7):
            one = told(ground, 1)
            right, wrong = (one,) * 13, (one,) * 14
            self.assertIs(rests.is_poly(ground, wrong), True)
            for call in (poly_sum, poly_less, poly_product, poly_divided, common_answer, resultant_answer):
                call(ground, right, right)
                self.refuses(errors.InvalidPoly, call, ground, right, wrong)
                self.refuses(errors.InvalidPoly, call, ground, wrong, right)
            for call in (derived, monic_of, square_answer):
                call(ground, right)
                self.refuses(errors.InvalidPoly, call, ground, wrong)
            for call in (poly_scaled, value_at, shifted):
                call(ground, right, one)
                self.refuses(errors.InvalidPoly, call, ground, wrong, one)
            self.refuses(errors.InvalidPoly, poly_power, ground, wrong, 2)
            self.refuses(errors.InvalidPoly, mix_answer, ground, right, right, wrong)
            self.assertEqual(judge_joined(self, *join_answer(ground, ((right, right),) * 4)), "joined")
            for pairs in (((right, wrong),), ((wrong, right),), ((right, right),) * 5, (), (((), right),),
                          [(right, right)], ([right, right],), ((right,),), ((right, right, right),), (None,)):
                self.refuses(errors.InvalidPoly, join_answer, ground, pairs)

    def test_operations_are_refused_behind_all_others(self):
        for ground in GROUNDS:
            one = (told(ground, 1),)
            self.refuses(errors.InvalidOperation, poly_divided, ground, one, ())
            self.refuses(errors.InvalidOperation, poly_divided, ground, (), ())
            self.refuses(errors.InvalidPoly, poly_divided, ground, None, ())
            self.refuses(errors.InvalidOperation, square_answer, ground, ())
            for pair in ((one, ()), ((), one), ((), ())):
                self.refuses(errors.InvalidOperation, resultant_answer, ground, *pair)
            self.refuses(errors.InvalidPoly, resultant_answer, ground, (), None)
        for many in (-1, 13, True, None, ONE):
            self.assertIs(self.refuses(errors.InvalidNumber, poly_power, 5, (1, 2), many).given, many)


class Reckoning(Case):
    def test_examples(self):
        self.assertEqual(
            [poly_divided(5, (1, 0, 3, 2), (2, 1)), value_at(5, (1, 0, 3, 2), 3), shifted(5, (1, 0, 1), 2),
             derived(3, (1, 1, 1, 1))], [((2, 4, 2), (2,)), 2, (0, 4, 1), (1, 2)])
        self.assertEqual(
            [common_answer(5, (4, 0, 1), (1, 2, 1))[0], mix_answer(5, (4, 0, 1), (1, 2, 1), (2,))[0][0],
             join_answer(5, (((0, 1), (1,)), ((4, 1), (3,))))[0][0]],
            [("common", 5, (4, 0, 1), (1, 2, 1), (1, 1)), "never mixed", "joined"])
        self.assertEqual([square_answer(2, (0, 0, 1, 1, 1, 1))[0][3], resultant_answer(5, (3, 0, 1), (4, 1))],
                         [(((0, 1), 2), ((1, 1), 3)), (("resultant", 5, (3, 0, 1), (4, 1), 4), ((1, 1),))])
        self.refuses(errors.InvalidOperation, poly_divided, 5, (1,), ())

    def test_sums_differences_and_products(self):
        source = random.Random(41)
        for ground in GROUNDS:
            for _ in range(150):
                one, other = any_poly(source, ground), any_poly(source, ground)
                self.assertEqual(poly_sum(ground, one, other), plus(ground, one, other))
                self.assertEqual(poly_less(ground, one, other), plus(ground, one, other, -1))
                self.assertEqual(poly_product(ground, one, other), times(ground, one, other))
                self.assertEqual(poly_less(ground, one, one), ())
                self.assertEqual(poly_sum(ground, one, poly_less(ground, (), one)), ())

    def test_the_head_number_drops_out(self):
        self.assertEqual(poly_sum(0, (ONE, ONE, HALF), (TWO, LESS, (-1, 2))), ((3, 1),))
        self.assertEqual(poly_sum(2, (1, 1, 1), (0, 1, 1)), (1,))
        self.assertEqual(poly_less(7, (0, 3), (0, 3)), ())
        self.assertEqual(poly_less(0, (ONE, HALF), (ZERO, HALF)), (ONE,))

    def test_scaled_and_powers(self):
        source = random.Random(42)
        for ground in GROUNDS:
            for _ in range(40):
                poly = any_poly(source, ground, 4)
                number = random_number(source, ground, 3)
                scaled = made(ground, [read(ground, x) * read(ground, number) for x in poly])
                self.assertEqual(poly_scaled(ground, poly, number), scaled)
                self.assertEqual(poly_scaled(ground, poly, told(ground, 0)), ())
                for many in (0, 1, 2, 5):
                    self.assertEqual(poly_power(ground, poly, many), times(ground, *[poly] * many))
            self.assertEqual(poly_power(ground, (), 0), (told(ground, 1),))
            self.assertEqual([poly_power(ground, (), many) for many in (1, 12)], [(), ()])
            long = random_poly(source, ground, 12)
            self.assertEqual(len(poly_power(ground, long, 12)), 145)
            self.assertEqual(poly_power(ground, long, 12), times(ground, *[long] * 12))

    def test_quotients_and_rests(self):
        source = random.Random(43)
        for ground in GROUNDS:
            for _ in range(150):
                one, other = any_poly(source, ground, 8), any_poly(source, ground, 4, 0)
                often, rest = poly_divided(ground, one, other)
                self.assertTrue(are_polys(ground, (often, rest)))
                self.assertEqual(plus(ground, times(ground, often, other), rest), one)
                self.assertLess(len(rest), len(other))
        self.assertEqual(poly_divided(0, (), (TWO,)), ((), ()))
        self.assertEqual(poly_divided(0, (ONE,), (ZERO, ONE)), ((), (ONE,)))

    def test_values_shifts_and_derivatives(self):
        source = random.Random(44)
        for ground in GROUNDS:
            for _ in range(80):
                poly, number = any_poly(source, ground), random_number(source, ground, 3)
                self.assertEqual(value_at(ground, poly, number), value(ground, poly, number))
                moved = shifted(ground, poly, number)
                self.assertTrue(is_poly(ground, moved, None, None) and len(moved) == len(poly))
                for _ in range(3):
                    place = random_number(source, ground, 3)
                    there = told(ground, read(ground, place) + read(ground, number))
                    self.assertEqual(value(ground, moved, place), value(ground, poly, there))
                back = told(ground, -read(ground, number))
                self.assertEqual(shifted(ground, moved, back), poly)
                self.assertEqual(derived(ground, poly), slope(ground, poly))
                monic = monic_of(ground, poly)
                self.assertTrue(monic == poly == () or is_monic(ground, monic))
                self.assertEqual(times(ground, poly[-1:], monic), poly)
        self.assertEqual([derived(3, (1, 0, 0, 1)), derived(2, (1, 0, 1)), derived(0, (HALF,)), derived(0, ())],
                         [(), (), (), ()])
        self.assertEqual(shifted(5, (1, 0, 1), 0), (1, 0, 1))

    def test_long_numbers(self):
        long = ((BIG, BIG - 1),) * 12 + ((-BIG, 1),)
        self.assertEqual(poly_product(0, long, long), times(0, long, long))
        self.assertEqual(value_at(0, long, (1, BIG)), value(0, long, (1, BIG)))
        often, rest = poly_divided(0, long, long[6:])
        self.assertEqual(plus(0, times(0, often, long[6:]), rest), long)
        moved = (Fraction(BIG, BIG - 1) - BIG * BIG, Fraction(-BIG))
        self.assertEqual(shifted(0, long[11:], (BIG, 1)), made(0, moved))


class Common(Case):
    def test_random_polys(self):
        source = random.Random(45)
        degrees = []
        for ground in GROUNDS:
            for _ in range(80):
                part = any_poly(source, ground, 3)
                f = times(ground, part, any_poly(source, ground, 4))
                g = times(ground, part, any_poly(source, ground, 4))
                claim, paper = common_answer(ground, f, g)
                self.assertEqual(claim[:4], ("common", ground, f, g))
                judge_common(self, claim, paper)
                degrees.append(len(claim[4]) - 1)
        self.assertTrue(min(degrees.count(k) for k in (-1, 0, 1, 2, 3)) > 3)

    def test_zero_on_one_side_and_on_both(self):
        for ground in GROUNDS:
            poly = made(ground, [1, 0, 1])
            for f, g, h in ((poly, (), poly), ((), poly, poly), ((), (), ()), (poly, poly, poly)):
                claim, paper = common_answer(ground, f, g)
                self.assertEqual(claim[4], h)
                judge_common(self, claim, paper)
        claim, paper = common_answer(0, (), (ONE, TWO))
        self.assertEqual(claim[4], (HALF, ONE))
        judge_common(self, claim, paper)

    def test_polys_without_a_common_root_can_have_something_in_common(self):
        square = ((-2, 1), ZERO, ONE)
        self.assertEqual(common_answer(0, square, times(0, square, (ONE, ONE)))[0][4], square)

    def test_long_polys(self):
        source = random.Random(46)
        f, g = random_poly(source, 0, 12, BIG), random_poly(source, 0, 12, BIG // 7)
        judge_common(self, *common_answer(0, f, g))


class Mixed(Case):
    def test_random_polys(self):
        source = random.Random(47)
        kinds = []
        for ground in GROUNDS:
            for _ in range(80):
                part = any_poly(source, ground, 2, 0)
                f = times(ground, part, any_poly(source, ground, 3))
                g = times(ground, part, any_poly(source, ground, 3))
                e = any_poly(source, ground, 6)
                claim, paper = mix_answer(ground, f, g, e)
                self.assertEqual(claim[1:], (ground, f, g, e))
                kinds.append(judge_mixed(self, claim, paper))
                e = plus(ground, times(ground, any_poly(source, ground, 2), f), times(ground, (told(ground, 1),), g))
                self.assertEqual(judge_mixed(self, *mix_answer(ground, f, g, e)), "mixed")
        self.assertGreater(min(kinds.count("mixed"), kinds.count("never mixed")), 80)

    def test_zeros(self):
        for ground in GROUNDS:
            poly, long = made(ground, [1, 1]), made(ground, [0, 1, 1])
            for e in (poly, long, made(ground, [1]), random_poly(random.Random(3), ground, 12)):
                self.assertEqual(judge_mixed(self, *mix_answer(ground, (), (), e)), "never mixed")
            self.assertEqual(judge_mixed(self, *mix_answer(ground, (), (), ())), "mixed")
            self.assertEqual(judge_mixed(self, *mix_answer(ground, poly, long, ())), "mixed")
            self.assertEqual(judge_mixed(self, *mix_answer(ground, poly, (), long)), "mixed")
            self.assertEqual(judge_mixed(self, *mix_answer(ground, (), long, poly)), "never mixed")


class Joined(Case):
    def test_random_pairs(self):
        source = random.Random(48)
        kinds = []
        for ground in GROUNDS:
            for _ in range(80):
                parts = [any_poly(source, ground, 2, 0) for _ in range(2)]
                moduli = [times(ground, source.choice(parts), any_poly(source, ground, 1, 0))
                          for _ in range(source.randint(1, 4))]
                pairs = tuple((m, any_poly(source, ground, 2)) for m in moduli)
                claim, paper = join_answer(ground, pairs)
                self.assertEqual(claim[1:], (ground, pairs))
                kinds.append(judge_joined(self, claim, paper))
                f = any_poly(source, ground, 6)
                agree = tuple((m, plus(ground, f, times(ground, m, any_poly(source, ground, 1)))) for m in moduli)
                self.assertEqual(judge_joined(self, *join_answer(ground, agree)), "joined")
        self.assertGreater(min(kinds.count("joined"), kinds.count("never joined")), 80)

    def test_moduli_of_degree_0(self):
        for ground in GROUNDS:
            two = told(ground, 2 if ground != 2 else 1)
            pairs = (((two,), ()), ((two,), (two, two)))
            self.assertEqual(judge_joined(self, *join_answer(ground, pairs)), "joined")


class SquareParts(Case):
    def test_all_polys_of_low_degree_modulo_2_and_3(self):
        for ground, degree in ((2, 7), (3, 5)):
            for low in range(degree + 1):
                for numbers in product(range(ground), repeat=low):
                    for head in range(1, ground):
                        judge_square(self, *square_answer(ground, numbers + (head,)))

    def test_parts_that_stand_often(self):
        source = random.Random(49)
        for ground in GROUNDS:
            for _ in range(60):
                factors = []
                while sum(len(factor) - 1 for factor in factors) < 9:
                    factor = any_poly(source, ground, 2, 1)
                    factors += [factor] * source.choice((1, 1, 2, 3, 5))
                while sum(len(factor) - 1 for factor in factors) > 12:
                    factors.pop()
                f = times(ground, (random_poly(source, ground, 0))[:1], *factors)
                claim, paper = square_answer(ground, f)
                self.assertEqual(claim[:3], ("square parts", ground, f))
                judge_square(self, claim, paper)

    def test_powers_of_the_prime(self):
        cases = ((2, (1, 0, 0, 0, 1), (((1, 1), 4),)), (3, (2, 0, 0, 2), (((1, 1), 3),)),
                 (2, (0, 0, 1, 0, 1), (((0, 1, 1), 2),)), (5, (0, 0, 0, 0, 0, 0, 3), (((0, 1), 6),)),
                 (3, (0,) * 12 + (2,), (((0, 1), 12),)), (2, (1, 1, 0, 0, 1, 1), (((1, 1), 5),)),
                 (3, (2,), ()), (0, ((-3, 4),), ()), (0, (ZERO, ZERO, HALF), (((ZERO, ONE), 2),)))
        for ground, f, rows in cases:
            claim, paper = square_answer(ground, f)
            self.assertEqual(claim[3], rows)
            judge_square(self, claim, paper)

    def test_row_over_the_fractions(self):
        one, other = ((-2, 1), ZERO, ONE), (HALF, ONE)
        f = times(0, ((-3, 7),), one, one, one, other, other, (ZERO, ONE), (ONE, ONE))
        claim, paper = square_answer(0, f)
        self.assertEqual(claim[3], ((times(0, (ZERO, ONE), (ONE, ONE)), 1), (other, 2), (one, 3)))
        judge_square(self, claim, paper)


class Resultants(Case):
    def test_random_polys(self):
        source = random.Random(50)
        zeros = 0
        for ground in GROUNDS:
            for _ in range(60):
                f, g = any_poly(source, ground, 5, 0), any_poly(source, ground, 5, 0)
                if source.random() < 0.2:
                    part = any_poly(source, ground, 2, 1)
                    f, g = times(ground, f, part), times(ground, g, part)
                claim, paper = resultant_answer(ground, f, g)
                self.assertEqual(claim[:4], ("resultant", ground, f, g))
                judge_resultant(self, claim, paper)
                common = common_answer(ground, f, g)[0][4]
                self.assertEqual(claim[4] == told(ground, 0), len(common) > 1)
                zeros += len(common) > 1
                if ground in (0, 9973) and len(f) + len(g) < 9:
                    self.assertEqual(claim[4], sylvester(ground, f, g))
        self.assertGreater(zeros, 30)

    def test_degree_0(self):
        for ground in GROUNDS:
            two = (told(ground, 3 if ground == 2 else 2),)
            cubic = made(ground, [1, 1, 0, 1])
            self.assertEqual(resultant_answer(ground, two, two), (("resultant", ground, two, two, told(ground, 1)), ()))
            eight = told(ground, read(ground, two[0]) ** 3)
            self.assertEqual(resultant_answer(ground, cubic, two), (("resultant", ground, cubic, two, eight), ()))
            claim, paper = resultant_answer(ground, two, cubic)
            self.assertEqual(claim[4], eight)
            judge_resultant(self, claim, paper)

    def test_odd_degrees_turn_the_sign(self):
        f, g = made(0, [1, 2, 0, 1]), made(0, [-3, 1])
        one, other = resultant_answer(0, f, g), resultant_answer(0, g, f)
        judge_resultant(self, *one)
        judge_resultant(self, *other)
        self.assertEqual(Fraction(*one[0][4]), -Fraction(*other[0][4]))
        self.assertEqual((one[0][4], other[0][4]), (sylvester(0, f, g), sylvester(0, g, f)))

    def test_long_polys(self):
        source = random.Random(51)
        f, g = random_poly(source, 0, 12, 10 ** 9), random_poly(source, 0, 11, BIG)
        claim, paper = resultant_answer(0, f, g)
        judge_resultant(self, claim, paper)
