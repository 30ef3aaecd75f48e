"""Stage 1: grounds, numbers, common divisors and rests."""
import random
from fractions import Fraction
from math import floor, gcd, lcm

from helping import BIG, GROUND, HALF, INTEGER, LESS, ODD, ONE, Case, between, is_ground, is_integer, is_number
from helping import number_rule, told

from zeroorone import errors
from zeroorone.base import numbers, plain
from zeroorone.base.numbers import added, compared, divided, divisor_answer, fraction, multiplied, raised, read_at
from zeroorone.base.numbers import rests_answer, rounded, subtracted, whole
from zeroorone.paper.numbers import LAST_GROUND

GROUNDS = (0, 2, 3, 5, 7, 101, 9973)


def some_numbers(ground):
    if ground:
        return sorted({0, 1, 2 % ground, ground // 2, ground - 2, ground - 1})
    return [(0, 1), ONE, LESS, HALF, (-1, 2), (7, 3), (-22, 7), (BIG, 1), (-BIG, 1), (1, BIG), (-1, BIG),
            (BIG, BIG - 1), (-BIG, BIG - 1), (BIG - 1, BIG), (5, 6)]


class Grounds(Case):
    def test_constants(self):
        self.assertEqual((numbers.MAX_GROUND, numbers.MAX_DIGITS, numbers.MAX_EXPONENT, numbers.MAX_RESTS),
                         (9999, 60, 1000, 6))
        self.assertEqual((LAST_GROUND, plain.SIXTY_DIGITS), (numbers.MAX_GROUND, 10 ** numbers.MAX_DIGITS))

    def test_grounds_are_0_and_the_primes_below_10000(self):
        primes = [n for n in range(2, 10000) if all(n % k for k in range(2, floor(n ** 0.5) + 1))]
        self.assertEqual([n for n in range(-10, 12000) if numbers.is_ground(n)], [0] + primes)

    def test_is_ground_takes_every_value(self):
        for value in ODD:
            self.assertIs(numbers.is_ground(value), is_ground(value))

    def test_is_number_takes_every_value(self):
        for ground in GROUNDS:
            for value in ODD:
                self.assertIs(numbers.is_number(ground, value), is_number(ground, value), (ground, value))

    def test_numbers_of_a_prime(self):
        self.assertEqual([n for n in range(-9, 20) if numbers.is_number(7, n)], list(range(7)))
        for ground, value in ((2, True), (2, False), (0, 0), (0, 1), (0, True), (7, (1, 1))):
            self.assertIs(numbers.is_number(ground, value), False)

    def test_sixty_digits_are_let_and_sixty_one_are_not(self):
        for number in ((BIG, 1), (-BIG, 1), (1, BIG), (BIG - 1, BIG)):
            self.assertIs(numbers.is_number(0, number), True)
        for number in ((BIG + 1, 1), (-BIG - 1, 1), (1, BIG + 1), (BIG, BIG + 1), (BIG + 1, BIG)):
            self.assertIs(numbers.is_number(0, number), False)
        self.assertEqual(whole(0, BIG), (BIG, 1))
        self.assertEqual(self.refuses(errors.InvalidNumber, whole, 0, BIG + 1).given, BIG + 1)
        self.assertEqual(self.refuses(errors.InvalidNumber, whole, 7, -BIG - 1).given, -BIG - 1)

    def test_is_number_raises_for_its_ground_alone(self):
        for ground in ODD:
            if not is_ground(ground):
                for value in (1, ONE, None, {}):
                    self.assertIs(self.refuses(errors.InvalidGround, numbers.is_number, ground, value).value, ground)


class Refusals(Case):
    def test_first_wrong_argument_is_told(self):
        for ground, one, other in ((0, HALF, LESS), (7, 3, 5), (2, 1, 1)):
            number = number_rule(ground)
            for call in (added, subtracted, multiplied, divided):
                self.check_refusals(call, (ground, one, other), (GROUND, number, number))
            self.check_refusals(raised, (ground, one, 3), (GROUND, number, between(-1000, 1000)))
            self.check_refusals(whole, (ground, 3), (GROUND, INTEGER))
        self.check_refusals(fraction, (6, 4), (INTEGER, (errors.InvalidNumber, "given", is_integer)))
        self.check_refusals(compared, (HALF, LESS), (number_rule(0), number_rule(0)))
        self.check_refusals(rounded, (HALF,), (number_rule(0),))
        prime = (errors.InvalidGround, "value", lambda value: is_ground(value) and value != 0)
        self.check_refusals(read_at, (5, HALF), (prime, number_rule(0)))
        self.check_refusals(divisor_answer, (5, 7), (INTEGER, INTEGER))

    def test_grounds_that_are_none(self):
        for ground in (1, 4, 10007, -1, -7, True, False, BIG + 1):
            self.assertIs(self.refuses(errors.InvalidGround, added, ground, None, None).value, ground)

    def test_operations_are_refused_behind_all_others(self):
        self.refuses(errors.InvalidOperation, fraction, 1, 0)
        self.refuses(errors.InvalidNumber, fraction, True, 0)
        self.refuses(errors.InvalidNumber, fraction, 1, False)
        for ground in GROUNDS:
            zero = whole(ground, 0)
            self.refuses(errors.InvalidOperation, divided, ground, whole(ground, 1), zero)
            self.refuses(errors.InvalidOperation, divided, ground, zero, zero)
            self.refuses(errors.InvalidNumber, divided, ground, None, zero)
            for exponent in (-1, -1000):
                self.refuses(errors.InvalidOperation, raised, ground, zero, exponent)
            for exponent in (-1001, 1001, True, None):
                self.refuses(errors.InvalidNumber, raised, ground, zero, exponent)
        self.refuses(errors.InvalidOperation, read_at, 5, (1, 10))
        self.refuses(errors.InvalidGround, read_at, 0, (1, 10))
        self.refuses(errors.InvalidNumber, read_at, 5, (2, 10))


class Reckoning(Case):
    def test_examples(self):
        self.assertEqual(
            [whole(0, 3), whole(7, -1), fraction(6, -4), added(0, HALF, HALF), divided(7, 1, 3), raised(0, HALF, -2),
             raised(5, 0, 0), compared(HALF, (2, 3)), rounded((-1, 2)), read_at(5, HALF)],
            [(3, 1), 6, (-3, 2), (1, 1), 5, (4, 1), 1, -1, -1, 3])
        self.assertEqual(
            [numbers.is_number(0, (2, 4)), numbers.is_number(5, 5), numbers.is_number(0, 3), numbers.is_ground(1),
             numbers.is_ground(9973), numbers.is_ground(10007), numbers.is_ground(True)],
            [False, False, False, False, True, False, False])
        self.assertEqual(self.refuses(errors.InvalidGround, whole, 4, 1).value, 4)

    def test_whole_for_integers_of_any_sign(self):
        for number in (0, 1, -1, 6, -7, 10 ** 30, -10 ** 30, BIG, -BIG):
            self.assertEqual(whole(0, number), (number, 1))
            for ground in GROUNDS[1:]:
                self.assertEqual(whole(ground, number), number % ground)

    def test_fraction_has_lowest_terms_and_a_bottom_above_0(self):
        for top in (0, 1, -1, 6, -6, BIG, -BIG):
            for bottom in (1, -1, 4, -4, 15, BIG, -BIG):
                self.assertEqual(fraction(top, bottom), told(0, Fraction(top, bottom)))

    def test_sums_products_and_quotients_of_fractions(self):
        for one in some_numbers(0):
            for other in some_numbers(0):
                a, b = Fraction(*one), Fraction(*other)
                self.assertEqual(added(0, one, other), told(0, a + b))
                self.assertEqual(subtracted(0, one, other), told(0, a - b))
                self.assertEqual(multiplied(0, one, other), told(0, a * b))
                self.assertEqual(compared(one, other), (a > b) - (a < b))
                if b != 0:
                    self.assertEqual(divided(0, one, other), told(0, a / b))

    def test_sums_products_and_quotients_modulo_primes(self):
        for ground in GROUNDS[1:]:
            for one in some_numbers(ground):
                for other in some_numbers(ground):
                    self.assertEqual(added(ground, one, other), (one + other) % ground)
                    self.assertEqual(subtracted(ground, one, other), (one - other) % ground)
                    self.assertEqual(multiplied(ground, one, other), one * other % ground)
                    if other:
                        share = divided(ground, one, other)
                        self.assertTrue(numbers.is_number(ground, share))
                        self.assertEqual(share * other % ground, one)

    def test_powers(self):
        for exponent in (-1000, -999, -2, -1, 0, 1, 2, 3, 7, 8, 999, 1000):
            for ground in GROUNDS:
                for one in some_numbers(ground):
                    if one in (0, (0, 1)) and exponent < 0:
                        continue
                    if ground:
                        self.assertEqual(raised(ground, one, exponent), pow(one, exponent, ground))
                    elif abs(exponent) < 10 or max(one) < 100:
                        self.assertEqual(raised(0, one, exponent), told(0, Fraction(*one) ** exponent))
        self.assertEqual(raised(0, (BIG, 2), 1000), (BIG ** 1000, 2 ** 1000))
        self.assertEqual(raised(0, (-BIG, 2), -999), (-2 ** 999, BIG ** 999))

    def test_0_with_the_exponent_0_is_1(self):
        self.assertEqual([raised(ground, whole(ground, 0), 0) for ground in (0, 2, 5)], [(1, 1), 1, 1])
        self.assertEqual([raised(ground, whole(ground, 0), 3) for ground in (0, 2, 5)], [(0, 1), 0, 0])

    def test_rounded_is_not_above(self):
        for one in some_numbers(0) + [(-1, 3), (-7, 2), (7, 2), (-4, 1)]:
            self.assertEqual(rounded(one), floor(Fraction(*one)))


class Reading(Case):
    def test_sums_and_products_go_along_with_reading(self):
        for prime in (2, 3, 5, 7, 9973):
            some = [one for one in some_numbers(0) if one[1] % prime]
            for one in some:
                self.assertEqual(read_at(prime, one) * one[1] % prime, one[0] % prime)
                self.assertTrue(numbers.is_number(prime, read_at(prime, one)))
                for other in some:
                    first, second = read_at(prime, one), read_at(prime, other)
                    total, product = Fraction(*one) + Fraction(*other), Fraction(*one) * Fraction(*other)
                    self.assertEqual(told(prime, total), added(prime, first, second))
                    self.assertEqual(told(prime, product), multiplied(prime, first, second))
                    if max(map(abs, told(0, total) + told(0, product))) <= BIG:
                        self.assertEqual(read_at(prime, told(0, total)), added(prime, first, second))
                        self.assertEqual(read_at(prime, told(0, product)), multiplied(prime, first, second))

    def test_the_prime_may_not_divide_the_bottom(self):
        for prime in (2, 3, 5, 9973):
            for bottom in (prime, prime ** 2, prime * 13):
                self.refuses(errors.InvalidOperation, read_at, prime, (1, bottom))
        self.assertEqual(read_at(3, (3, 4)), 0)


class Divisors(Case):
    def judge(self, one, other):
        claim, paper = divisor_answer(one, other)
        kind, a, b, g = claim
        u, v, c, d = paper
        self.assertEqual((kind, a, b, g), ("divisor", one, other, gcd(one, other)))
        self.assertTrue(all(is_integer(x, None) for x in claim[1:] + paper))
        self.assertEqual((u * a + v * b, c * g, d * g), (g, a, b))

    def test_papers_make_the_divisor(self):
        for one in range(-20, 21):
            for other in range(-20, 21):
                self.judge(one, other)

    def test_long_integers(self):
        source = random.Random(1)
        some = [0, BIG, -BIG, BIG - 1, 10 ** 59, 2 ** 199] + [source.randint(-BIG, BIG) for _ in range(30)]
        for one in some:
            for other in some:
                self.judge(one, other)

    def test_examples(self):
        self.assertEqual([divisor_answer(12, -18)[0], divisor_answer(0, 0)[0]],
                         [("divisor", 12, -18, 6), ("divisor", 0, 0, 0)])


class Rests(Case):
    def judge(self, pairs):
        claim, paper = rests_answer(pairs)
        self.assertEqual(claim[1:], (pairs,))
        if claim[0] == "rests":
            self.assertTrue(is_integer(paper, None))
            self.assertTrue(all((paper - rest) % modulus == 0 for modulus, rest in pairs))
        else:
            i, j, g = paper
            self.assertEqual(claim[0], "no rests")
            self.assertTrue(all(is_integer(x, None) for x in paper))
            self.assertTrue(0 <= i < j < len(pairs) and g >= 1)
            self.assertEqual((pairs[i][0] % g, pairs[j][0] % g), (0, 0))
            self.assertNotEqual((pairs[i][1] - pairs[j][1]) % g, 0)
        return claim[0]

    def test_examples(self):
        self.assertEqual(rests_answer(((4, 1), (6, 2))), (("no rests", ((4, 1), (6, 2))), (0, 1, 2)))
        self.assertEqual(rests_answer(((4, 1), (6, 3)))[0][0], "rests")

    def test_one_pair_and_moduli_of_1(self):
        for pair in ((1, 0), (1, -7), (1, BIG), (5, -3), (5, 13), (BIG, -BIG), (BIG, BIG)):
            self.assertEqual(self.judge((pair,)), "rests")
            self.assertEqual(self.judge((pair, (1, 9), (1, -4))), "rests")

    def test_pairs_that_agree_and_pairs_that_do_not(self):
        source = random.Random(2)
        kinds = []
        for many in (1, 2, 3, 6):
            for _ in range(300):
                moduli = [source.randint(1, source.choice((4, 30))) for _ in range(many)]
                pairs = tuple((modulus, source.randint(-40, 40)) for modulus in moduli)
                around = lcm(*moduli)
                right = any(all((x - r) % m == 0 for m, r in pairs) for x in range(min(around, 200000)))
                if around <= 200000:
                    kinds.append(self.judge(pairs))
                    self.assertEqual(kinds[-1] == "rests", right)
                x = source.randint(-10 ** 9, 10 ** 9)
                self.assertEqual(self.judge(tuple((m, x + m * source.randint(-3, 3)) for m in moduli)), "rests")
        self.assertGreater(min(kinds.count("rests"), kinds.count("no rests")), 100)

    def test_six_long_pairs(self):
        x = 10 ** 58 + 7
        moduli = [10 ** 59, 2 ** 190, 3 ** 120, 5 ** 80, 7 ** 70, BIG]
        self.assertEqual(self.judge(tuple((m, x % m - m) for m in moduli)), "rests")
        self.assertEqual(self.judge(tuple((m, x % m) for m in moduli[:5]) + ((BIG, x % BIG + 1),)), "no rests")

    def test_wrong_pairs(self):
        wrong = [(), ((4, 1),) * 7, ((0, 1),), ((-4, 1),), ((4, 1, 1),), ((4,),), [(4, 1)], ([4, 1],), ((True, 1),),
                 ((4, True),), ((BIG + 1, 1),), ((4, BIG + 1),), ((4, -BIG - 1),), ((4, (1, 1)),), ((4, 1), None)]
        for pairs in wrong:
            self.refuses(errors.InvalidOperation, rests_answer, pairs)
        for value in ODD:
            if value not in (((1, 2),), ((1, 0),)):
                self.refuses(errors.InvalidOperation, rests_answer, value)
        self.assertEqual(self.judge(((4, 1),) * 6), "rests")
