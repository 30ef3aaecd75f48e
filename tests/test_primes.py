"""Stage 2: primes, parts, divisors and orders."""
import random
from math import gcd, isqrt

from helping import BIG, INTEGER, ODD, Case, between, is_integer

from zeroorone import errors
from zeroorone.primes import primes
from zeroorone.primes.primes import divisors, is_prime, least_maker, next_prime, order_of, prime_answer
from zeroorone.primes.primes import prime_parts_answer, units_number

MOST = 10 ** 8
LONG = [99999989, 99999971, 10 ** 8, 10 ** 8 - 1, 99980001, 99460729, 9973 ** 2, 9967 * 9973, 2 ** 26, 3 ** 16,
        2 * 3 * 5 * 7 * 11 * 13 * 17 * 19, 65537, 99999941]
LIKE_PRIMES = [341, 561, 645, 1105, 1729, 2047, 2465, 2821, 6601, 8911, 25326001]


def is_really_prime(number):
    return number >= 2 and all(number % k for k in range(2, isqrt(number) + 1))


def judge_rows(case, number, rows):
    """[2.2], word by word."""
    case.assertIsInstance(rows, tuple)
    if number == 2:
        case.assertEqual(rows, ())
        return
    ahead = [2]
    for q, maker, parts in rows:
        case.assertTrue(is_integer(q) and is_integer(maker) and q > 2)
        case.assertTrue(q > ahead[-1] and 1 <= maker <= q - 1)
        case.assertIsInstance(parts, tuple)
        product, before = 1, 0
        for r, e in parts:
            case.assertTrue(is_integer(r) and is_integer(e) and r in ahead and r > before and e >= 1)
            product, before = product * r ** e, r
            case.assertNotEqual(pow(maker, (q - 1) // r, q), 1)
        case.assertEqual(product, q - 1)
        case.assertEqual(pow(maker, q - 1, q), 1)
        ahead.append(q)
    case.assertEqual(ahead[-1], number)
    case.assertGreater(len(rows), 0)


class Primes(Case):
    def test_examples(self):
        self.assertEqual(
            [prime_answer(7)[0], prime_answer(2), prime_answer(4), prime_parts_answer(360)[0], prime_parts_answer(1)],
            [("prime", 7), (("prime", 2), ()), (("split", 4), (2, 2)),
             ("prime parts", 360, ((2, 3), (3, 2), (5, 1))), (("prime parts", 1, ()), ())])
        self.assertEqual(
            [is_prime(1), is_prime(341), next_prime(89), divisors(12), units_number(12), order_of(7, 2),
             order_of(1, 0), least_maker(7), least_maker(2)],
            [False, False, 97, (1, 2, 3, 4, 6, 12), 4, 3, 1, 3, 1])
        self.refuses(errors.InvalidOperation, order_of, 6, 3)
        judge_rows(self, 7, ((3, 2, ((2, 1),)), (7, 3, ((2, 1), (3, 1)))))
        self.assertEqual(primes.MOST, 10 ** 8)

    def test_is_prime(self):
        for number in list(range(3000)) + LONG + LIKE_PRIMES:
            self.assertIs(is_prime(number), is_really_prime(number))

    def test_next_prime(self):
        for number in list(range(1000)) + LONG:
            found = next_prime(number)
            self.assertTrue(found > number and is_really_prime(found))
            self.assertFalse(any(is_really_prime(k) for k in range(number + 1, found)))
        self.assertEqual(next_prime(10 ** 8), 100000007)

    def judge(self, number):
        claim, paper = prime_answer(number)
        if is_really_prime(number):
            self.assertEqual(claim, ("prime", number))
            judge_rows(self, number, paper)
        else:
            self.assertEqual(claim, ("split", number))
            self.assertTrue(isinstance(paper, tuple) and len(paper) == 2 and all(is_integer(x) for x in paper))
            self.assertTrue(min(paper) >= 2 and paper[0] * paper[1] == number)

    def judge_parts(self, number):
        (kind, n, parts), papers = prime_parts_answer(number)
        self.assertEqual((kind, n, len(papers)), ("prime parts", number, len(parts)))
        self.assertEqual([q for q, _ in parts], sorted({q for q, _ in parts}))
        product = 1
        for (q, e), paper in zip(parts, papers):
            self.assertTrue(is_integer(q) and is_integer(e) and e >= 1)
            judge_rows(self, q, paper)
            product *= q ** e
        self.assertEqual(product, number)

    def test_answers(self):
        for number in list(range(2, 1500)) + LONG + LIKE_PRIMES:
            self.judge(number)
            self.judge_parts(number)
        self.judge_parts(1)

    def test_numbers_to_the_bound(self):
        source = random.Random(5)
        for _ in range(150):
            number = source.randint(2, MOST)
            self.judge(number)
            self.judge_parts(number)
            self.judge(next_prime(number % (MOST - 1000)))

    def test_bounds(self):
        self.check_refusals(is_prime, (7,), (between(0, MOST),))
        self.check_refusals(next_prime, (7,), (between(0, MOST),))
        self.check_refusals(prime_answer, (7,), (between(2, MOST),))
        for call in (prime_parts_answer, divisors, units_number):
            self.check_refusals(call, (7,), (between(1, MOST),))
        for call in (is_prime, next_prime, prime_answer, prime_parts_answer, divisors, units_number):
            for number in (MOST + 1, MOST + 7, -1, -7, True):
                self.assertIs(self.refuses(errors.InvalidNumber, call, number).given, number)
        for call, number in ((prime_answer, 1), (prime_answer, 0), (prime_parts_answer, 0), (divisors, 0)):
            self.assertEqual(self.refuses(errors.InvalidNumber, call, number).given, number)
        self.assertIs(is_prime(0), False)
        self.assertEqual(next_prime(0), 2)


class Orders(Case):
    def test_all_divisors(self):
        for number in range(1, 700):
            self.assertEqual(divisors(number), tuple(k for k in range(1, number + 1) if number % k == 0))
        self.assertEqual(len(divisors(73513440)), 768)
        self.assertEqual(divisors(99999989), (1, 99999989))

    def test_units(self):
        for number in range(1, 400):
            self.assertEqual(units_number(number), sum(gcd(k, number) == 1 for k in range(1, number + 1)))

    def test_the_numbers_of_units_of_all_divisors_add_up(self):
        for number in list(range(1, 300)) + LONG:
            self.assertEqual(sum(units_number(divisor) for divisor in divisors(number)), number)

    def test_orders_are_found_again_by_multiplying(self):
        for modulus in range(1, 90):
            for number in range(-modulus - 3, modulus + 3):
                if gcd(modulus, number) != 1:
                    self.refuses(errors.InvalidOperation, order_of, modulus, number)
                    continue
                order, power = 1, number % modulus
                while power != 1 % modulus:
                    order, power = order + 1, power * number % modulus
                self.assertEqual(order_of(modulus, number), order)
                self.assertEqual(units_number(modulus) % order, 0)

    def test_orders_of_long_integers(self):
        for number in (BIG, -BIG, 10 ** 59 + 1):
            self.assertEqual(order_of(99999989, number), order_of(99999989, number % 99999989))
        order = order_of(99999989, 2)
        self.assertEqual(pow(2, order, 99999989), 1)
        self.assertTrue(all(pow(2, order // q, 99999989) != 1 for q, _ in prime_parts_answer(order)[0][2]))
        self.assertEqual([order_of(1, number) for number in (0, 5, -5, BIG)], [1, 1, 1, 1])
        self.assertEqual(order_of(10 ** 8, 1), 1)

    def test_order_refusals(self):
        self.check_refusals(order_of, (7, 2), (between(1, MOST), INTEGER))
        self.refuses(errors.InvalidNumber, order_of, 0, 2)
        self.refuses(errors.InvalidNumber, order_of, MOST + 1, 2)
        self.refuses(errors.InvalidNumber, order_of, 6, BIG + 1)
        self.refuses(errors.InvalidOperation, order_of, 6, 0)

    def test_least_makers(self):
        for prime in [n for n in range(2, 500) if is_really_prime(n)]:
            orders = [k for k in range(1, prime) if order_of(prime, k) == prime - 1]
            self.assertEqual(least_maker(prime), orders[0])
        self.assertEqual([least_maker(prime) for prime in (2, 3, 41, 191, 409)], [1, 2, 6, 19, 21])
        maker = least_maker(99999989)
        self.assertEqual(order_of(99999989, maker), 99999988)
        self.assertTrue(all(order_of(99999989, k) < 99999988 for k in range(1, maker)))

    def test_least_maker_takes_primes_alone(self):
        for value in ODD + [0, 1, 4, 9, 341, 10 ** 8, 100000007, -7, -2]:
            if not (is_integer(value) and 0 <= value <= MOST and is_really_prime(value)):
                self.assertIs(self.refuses(errors.InvalidNumber, least_maker, value).given, value)
