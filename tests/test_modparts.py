"""Stage 7: parts modulo a prime."""
import random
from itertools import product

from helping import BIG, Case, between, is_ground, is_integer
from polys import any_poly, common, halves, judge_parted, judge_parts, judge_unsplit_modulo, made, plus, poly_rule
from polys import power_rest as reckoned_power, random_poly, rest, slope, times, value

from zeroorone import errors
from zeroorone.letter.modparts import first_unsplit, is_unsplit, parts, parts_answer, power_rest, roots_in, same_powers
from zeroorone.letter.modparts import turned_rest, unsplit_answer, unsplit_number

PRIMES = (2, 3, 5, 13, 101, 9973)
PRIME = (errors.InvalidGround, "value", lambda value: is_ground(value) and value != 0)
SMALL = ((2, 6), (3, 4), (5, 3), (7, 3))


def monic_polys(prime, degree):
    return [lower + (1,) for lower in product(range(prime), repeat=degree)]


def unsplit_polys(prime, most):
    """For each degree all monic unsplit polys, found by taking away all products."""
    found = {}
    for degree in range(1, most + 1):
        made_of_two = {times(prime, one, other) for low in range(1, degree // 2 + 1)
                       for one in monic_polys(prime, low) for other in monic_polys(prime, degree - low)}
        found[degree] = [poly for poly in monic_polys(prime, degree) if poly not in made_of_two]
    return found


def row_by_trying(prime, poly, unsplit):
    """The parts row by dividing by all unsplit polys in turn."""
    row, left = [], poly
    for degree in sorted(unsplit):
        for part in sorted(unsplit[degree]):
            many = 0
            while len(left) > degree and rest(prime, left, part) == ():
                left = halves(prime, left, part)[0]
                many += 1
            if many:
                row.append((part, many))
    return tuple(row)


def judge_row(prime):
    return lambda case, part, paper: judge_unsplit_modulo(case, prime, part, paper)


class Examples(Case):
    def test_examples(self):
        self.assertEqual(parts(2, (1, 0, 1, 0, 1)), (((1, 1, 1), 2),))
        self.assertEqual(roots_in(5, (1, 0, 1)), (2, 3))
        self.assertIs(is_unsplit(3, (1, 0, 1)), True)
        self.assertEqual(first_unsplit(3, 2), (1, 0, 1))
        self.assertEqual(power_rest(7, (0, 1), 6, (3, 0, 1)), (1,))
        self.assertEqual(turned_rest(3, (1, 0, 1), 1), (0, 2))
        self.assertEqual(same_powers(5, (1, 0, 1)), ((1,), (0, 1)))
        self.assertEqual(unsplit_answer(2, (1, 1, 1))[0], ("unsplit", 2, (1, 1, 1)))
        self.assertEqual(unsplit_answer(2, (1, 0, 1)), (("parted", 2, (1, 0, 1)), ((1, 1), (1, 1))))
        self.assertEqual(unsplit_number(2, 4), 3)
        self.assertEqual(parts_answer(2, (0, 1)), (("parts", 2, (0, 1), (((0, 1), 1),)), ((),)))
        self.refuses(errors.InvalidOperation, unsplit_answer, 5, (1, 2))

    def test_what_is_not_true(self):
        # [7.7]: a divisor of t ** (p ** n) - t of degree n, a parted one without roots, and one with one part alone.
        split = times(2, (0, 1), (1, 1))
        self.assertEqual(turned_rest(2, split, 2), (0, 1))
        self.assertIs(is_unsplit(2, split), False)
        square = times(2, (1, 1, 1), (1, 1, 1))
        self.assertEqual((roots_in(2, square), is_unsplit(2, square)), ((), False))
        self.assertEqual(parts(2, square), (((1, 1, 1), 2),))


class Refusals(Case):
    def test_refusals(self):
        for prime in (2, 5, 9973):
            good = (1, 1, 1)
            poly, many = poly_rule(prime), between(0, BIG)
            self.check_refusals(power_rest, (prime, good, 2, good), (PRIME, poly, many, poly))
            self.check_refusals(turned_rest, (prime, good, 2), (PRIME, poly, between(0, 24)))
            for call in (same_powers, parts, parts_answer, unsplit_answer, is_unsplit, roots_in):
                self.check_refusals(call, (prime, good), (PRIME, poly))
            self.check_refusals(unsplit_number, (prime, 2), (PRIME, between(1, 60)))
            self.check_refusals(first_unsplit, (prime, 2), (PRIME, between(1, 6)))

    def test_the_ground_0_is_no_prime(self):
        for call, args in ((power_rest, ((1,), 1, (1,))), (turned_rest, ((1,), 1)), (same_powers, ((0, 1),)),
                           (parts, ((1,),)), (parts_answer, ((1,),)), (unsplit_answer, ((0, 1),)),
                           (is_unsplit, ((0, 1),)), (roots_in, ((0, 1),)), (unsplit_number, (1,)),
                           (first_unsplit, (1,))):
            self.assertEqual(self.refuses(errors.InvalidGround, call, 0, *args).value, 0)
            self.refuses(errors.InvalidGround, call, 10007, *args)

    def test_bounds(self):
        top = (0,) * 12 + (1,)
        for call in (parts, parts_answer, unsplit_answer, is_unsplit, roots_in, same_powers):
            call(3, top)
            self.refuses(errors.InvalidPoly, call, 3, (0,) + top)
            self.refuses(errors.InvalidPoly, call, 3, (1, 0))
            self.refuses(errors.InvalidPoly, call, 3, (3, 1))
            self.refuses(errors.InvalidPoly, call, 3, (1, True))
            self.refuses(errors.InvalidPoly, call, 3, [0, 1])
        self.assertEqual(turned_rest(2, (1, 1, 1), 24), (0, 1))
        self.refuses(errors.InvalidNumber, turned_rest, 2, (1, 1, 1), 25)
        self.refuses(errors.InvalidNumber, turned_rest, 2, (), 25)
        self.refuses(errors.InvalidNumber, unsplit_number, 2, 61)
        self.refuses(errors.InvalidNumber, unsplit_number, 2, True)
        self.refuses(errors.InvalidNumber, first_unsplit, 2, 7)
        self.refuses(errors.InvalidNumber, power_rest, 2, (1,), BIG + 1, ())
        self.assertEqual(power_rest(2, (0, 1), BIG, (1, 1)), (1,))

    def test_errors_that_come_last(self):
        self.refuses(errors.InvalidOperation, power_rest, 3, (0, 1), 2, ())
        self.refuses(errors.InvalidOperation, turned_rest, 3, (), 2)
        for call in (parts, parts_answer, roots_in):
            self.refuses(errors.InvalidOperation, call, 3, ())
        for call in (same_powers, unsplit_answer):
            for poly in ((), (1,), (2,), (1, 2), (0, 0, 2)):
                self.refuses(errors.InvalidOperation, call, 3, poly)
        for poly in ((), (1,), (2,)):
            self.assertIs(is_unsplit(3, poly), False)


class Powers(Case):
    def test_power_rests(self):
        source = random.Random(71)
        for prime in PRIMES:
            for _ in range(12):
                one, poly = any_poly(source, prime), any_poly(source, prime, 5, 0)
                many = source.choice((0, 1, 2, 3, 7, 30, 10 ** 12 + 5, BIG))
                self.assertEqual(power_rest(prime, one, many, poly), reckoned_power(prime, one, many, poly))
            self.assertEqual(power_rest(prime, (), 0, (0, 1)), (1,))
            self.assertEqual(power_rest(prime, (0, 1), 0, (1,)), ())

    def test_turned_rests(self):
        source = random.Random(72)
        for prime in PRIMES:
            for many in (0, 1, 2, 5, 24):
                poly = any_poly(source, prime, 5, 0)
                self.assertEqual(turned_rest(prime, poly, many), reckoned_power(prime, (0, 1), prime ** many, poly))

    def test_what_divides_the_great_power_less_the_letter(self):
        # [7.2]
        for prime, most in ((2, 3), (3, 2)):
            unsplit = unsplit_polys(prime, most)
            for k in range(1, most + 1):
                whole = times(prime, *[poly for degree in unsplit if k % degree == 0 for poly in unsplit[degree]])
                told = [0] * (prime ** k) + [1]
                told[1] -= 1
                self.assertEqual(whole, made(prime, told))


class SamePowers(Case):
    def test_all_fixed_rests_are_sums_of_the_basis(self):
        source = random.Random(73)
        for prime, most in ((2, 6), (3, 4), (5, 3)):
            for poly in [source.choice(monic_polys(prime, degree)) for degree in range(1, most + 1) for _ in range(3)]:
                basis = same_powers(prime, poly)
                fixed = {made(prime, row) for row in product(range(prime), repeat=len(poly) - 1)
                         if reckoned_power(prime, made(prime, row), prime, poly) == made(prime, row)}
                sums = set()
                for numbers in product(range(prime), repeat=len(basis)):
                    total = ()
                    for number, member in zip(numbers, basis):
                        total = plus(prime, total, times(prime, made(prime, [number]), member))
                    sums.add(total)
                self.assertEqual(sums, fixed)
                self.check_shape(basis)

    def check_shape(self, basis):
        degrees = [len(member) - 1 for member in basis]
        self.assertEqual(degrees, sorted(set(degrees)))
        for member in basis:
            self.assertEqual(member[-1], 1)
            self.assertEqual([member[at] for at in degrees if at < len(member) - 1], [0] * degrees.index(len(member) - 1))

    def test_dimensions_and_splitting(self):
        source = random.Random(74)
        for prime in (5, 13):
            poly = times(prime, (1, 1), (2, 1), first_unsplit(prime, 2), first_unsplit(prime, 3))
            basis = same_powers(prime, poly)
            self.assertEqual(len(basis), 4)
            for member in [source.choice(basis) for _ in range(3)]:
                split = times(prime, *[common(prime, poly, plus(prime, member, made(prime, [-c]))) for c in range(prime)])
                self.assertEqual(split, poly)
        self.assertEqual(len(same_powers(9973, (1,) * 13)), len(parts(9973, (1,) * 13)))


class Parts(Case):
    def test_all_low_polys(self):
        for prime, most in SMALL:
            unsplit = unsplit_polys(prime, most)
            for degree in range(most + 1):
                polys = monic_polys(prime, degree)
                for poly in polys if len(polys) < 90 else random.Random(degree).sample(polys, 40):
                    self.assertEqual(parts(prime, poly), row_by_trying(prime, poly, unsplit))
                    self.assertIs(is_unsplit(prime, poly), poly in unsplit.get(degree, ()))

    def test_random_products(self):
        source = random.Random(75)
        for prime in PRIMES:
            for _ in range(12):
                f = random_poly(source, prime, source.randint(0, 3))
                while len(f) < 8:
                    part = any_poly(source, prime, 3, 0)
                    f = times(prime, f, part, *[part] * source.randint(0, 1))
                f = f if len(f) <= 13 else random_poly(source, prime, 12)
                claim, paper = parts_answer(prime, f)
                judge_parts(self, claim, paper, judge_row(prime))
                self.assertEqual(claim[:3], ("parts", prime, f))
                self.assertEqual(parts(prime, f), claim[3])

    def test_parts_that_stand_often(self):
        for prime in PRIMES:
            second = first_unsplit(prime, 2)
            for f, row in ((times(prime, *[(1, 1)] * 12), (((1, 1), 12),)),
                           (times(prime, *[second] * 6), ((second, 6),)),
                           (times(prime, *[second] * 3, *[(0, 1)] * 5), (((0, 1), 5), (second, 3)))):
                claim, paper = parts_answer(prime, f)
                self.assertEqual(claim[3], row)
                judge_parts(self, claim, paper, judge_row(prime))

    def test_powers_of_the_prime(self):
        # Their derivative is ().
        for prime, f, row in ((3, (1, 0, 0, 1), (((1, 1), 3),)), (2, (1, 0, 1, 0, 1), (((1, 1, 1), 2),)),
                              (2, (0, 0, 0, 0, 1), (((0, 1), 4),)), (5, (2, 0, 0, 0, 0, 3), (((4, 1), 5),)),
                              (3, times(3, *[(1, 0, 1)] * 3, *[(1, 1)] * 6), (((1, 1), 6), ((1, 0, 1), 3)))):
            self.assertTrue(f[0] == 0 or slope(prime, f) == ())
            claim, paper = parts_answer(prime, f)
            self.assertEqual(claim[3], row)
            judge_parts(self, claim, paper, judge_row(prime))

    def test_low_degrees(self):
        self.assertEqual(parts_answer(7, (3,)), (("parts", 7, (3,), ()), ()))
        self.assertEqual(parts_answer(7, (3, 2)), (("parts", 7, (3, 2), (((5, 1), 1),)), ((),)))
        self.assertEqual(unsplit_answer(7, (3, 1)), (("unsplit", 7, (3, 1)), ()))
        self.assertIs(is_unsplit(7, (3, 2)), True)
        self.assertIs(is_unsplit(3, (2, 0, 2)), True)
        self.assertIs(is_unsplit(5, (2, 0, 2)), False)

    def test_many_parts_of_a_great_prime(self):
        f = times(9973, *[(700 * k + 1, 1) for k in range(12)])
        self.assertEqual(parts(9973, f), tuple(sorted((((700 * k + 1), 1), 1) for k in range(12))))


class Unsplit(Case):
    def test_both_claims(self):
        source = random.Random(76)
        for prime in PRIMES:
            kinds = set()
            for degree in (1, 2, 3, 4, 6, 8, 12) * 3:
                f = random_poly(source, prime, degree)[:-1] + (1,)
                claim, paper = unsplit_answer(prime, f)
                kinds.add(claim[0])
                self.assertEqual(claim[1:], (prime, f))
                self.assertIs(is_unsplit(prime, f), claim[0] == "unsplit")
                if claim[0] == "unsplit":
                    judge_unsplit_modulo(self, prime, f, paper)
                else:
                    judge_parted(self, claim, paper)
            self.assertEqual(kinds, {"unsplit", "parted"})

    def test_papers_of_unsplit_polys(self):
        for prime in PRIMES:
            for degree in range(1, 7):
                f = first_unsplit(prime, degree)
                claim, paper = unsplit_answer(prime, f)
                self.assertEqual(claim, ("unsplit", prime, f))
                judge_unsplit_modulo(self, prime, f, paper)

    def test_a_power_is_parted(self):
        claim, paper = unsplit_answer(3, times(3, *[(1, 0, 1)] * 6))
        judge_parted(self, claim, paper)


class RootsAndNumbers(Case):
    def test_roots(self):
        source = random.Random(77)
        for prime in PRIMES:
            for _ in range(6):
                f = times(prime, any_poly(source, prime, 3, 0), (source.randrange(prime), 1), (source.randrange(prime), 1))
                self.assertEqual(roots_in(prime, f), tuple(c for c in range(prime) if value(prime, f, c) == 0))
            self.assertEqual(roots_in(prime, (1,)), ())
        self.assertEqual(roots_in(5, (0, 4, 0, 0, 0, 1)), (0, 1, 2, 3, 4))

    def test_numbers(self):
        for prime, most in SMALL:
            unsplit = unsplit_polys(prime, most)
            for degree in unsplit:
                self.assertEqual(unsplit_number(prime, degree), len(unsplit[degree]))
                self.assertEqual(first_unsplit(prime, degree), min(unsplit[degree]))
        for prime in PRIMES:
            for n in range(1, 61):
                self.assertEqual(sum(d * unsplit_number(prime, d) for d in range(1, n + 1) if n % d == 0), prime ** n)

    def test_first_ones(self):
        for prime in PRIMES:
            self.assertEqual(first_unsplit(prime, 1), (0, 1))
            for degree in (2, 3):
                found = first_unsplit(prime, degree)
                lower = [poly for poly in ((1,) + tuple(row) + (1,) for row in product(range(40), repeat=degree - 1))
                         if poly < found and all(c < prime for c in poly)]
                self.assertTrue(all(any(value(prime, poly, c) == 0 for c in range(prime)) for poly in lower))

    def test_kinds_of_values(self):
        self.assertTrue(is_integer(unsplit_number(9973, 60), None) and unsplit_number(9973, 60) > 10 ** 200)
        self.assertIs(type(same_powers(2, (0, 1))), tuple)
