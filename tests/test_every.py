"""Stage 17: all primes but told ones."""
import random
from math import gcd

from helping import BIG, HALF, LESS, ODD, ONE, TWO, ZERO, Case, is_ground, is_integer, told
from judging import EVERY, is_made, is_paper, numbers_of, told_bottoms
from forms import is_ascending
from sampling import answers, near

from zeroorone import errors
from zeroorone.book.book import Book
from zeroorone.paper.checker import is_claim, takes
from zeroorone.primes.every import but_number, every_answer, every_kinds, led, led_paper, left_out_primes

HALVES, TOPS = ("solved", 0, ((TWO,),), (ONE,)), ("parted", 0, ((-1, 1), (0, 1), (4, 1)))
TOPS_PAPER = (((-1, 1), TWO), (ONE, TWO))
APART = ("no point", 0, 1, ({(1,): TWO}, {(0,): (3, 1), (1,): ONE}), ())
APART_PAPER = (0, ({(0,): (-1, 6)}, {(0,): (1, 3)}))
PRIMES = (2, 3, 5, 7, 13, 9973)
PRIME = (errors.InvalidGround, "value", lambda value: is_ground(value) and value != 0)
CLAIM = (errors.InvalidClaim, None, lambda value: False)

# A claim of each of the ten kinds with bottoms, and what it and its paper are modulo 7.
LED = [
    (("solved", 0, ((TWO, HALF),), (ONE,)), (HALF, ZERO), ("solved", 7, ((2, 4),), (1,)), (4, 0)),
    (("barred", 0, ((TWO,), ((4, 3),)), (ONE, ONE)), ((-2, 1), (3, 1)), ("barred", 7, ((2,), (6,)), (1, 1)), (5, 3)),
    (("rank", 0, (((7, 2), ONE),), 1), ((0,), (1,), ((ONE,),), ((ONE,),)), ("rank", 7, ((0, 1),), 1),
     ((0,), (1,), ((1,),), ((1,),))),
    (("common", 0, (ONE, (7, 1)), (), ((1, 7), ONE)), None, None, None),
    (("common", 0, (HALF, HALF), (), (ONE, ONE)), ((TWO,), ((7, 1), (7, 1)), (HALF,), ()),
     ("common", 7, (4, 4), (), (1, 1)), ((2,), (), (4,), ())),
    (("parted", 0, (LESS, ZERO, (4, 1))), TOPS_PAPER, ("parted", 7, (6, 0, 4)), ((6, 2), (1, 2))),
    (("within", 0, 1, {(1,): (7, 2), (0,): HALF}, ({(0,): HALF},)), ({(1,): (7, 1), (0,): ONE},),
     ("within", 7, 1, {(0,): 4}, ({(0,): 4},)), ({(0,): 1},)),
    (("same lot", 0, 1, ({(1,): TWO},), ({(1,): HALF},)), ((({(0,): (4, 1)},),), (({(0,): (1, 4)},),)),
     ("same lot", 7, 1, ({(1,): 2},), ({(1,): 4},)), ((({(0,): 4},),), (({(0,): 2},),))),
    (("basis", 0, 1, "lex", ({(1,): TWO, (0,): ONE},), ({(1,): ONE, (0,): HALF},)),
     ((({(0,): HALF},),), (({(0,): TWO},),), ()), ("basis", 7, 1, "lex", ({(0,): 1, (1,): 2},), ({(0,): 4, (1,): 1},)),
     ((({(0,): 4},),), (({(0,): 2},),), ())),
    (("point", 0, 1, ({(2,): (7, 1), (1,): TWO, (0,): LESS},), ()), None, None, None),
    (("point", 0, 1, ({(1,): TWO, (0,): LESS},), ({(1,): (14, 1), (0,): ONE},)), ((ZERO, ONE), ((HALF,),), ((((1, 8),)),)),
     ("point", 7, 1, ({(0,): 6, (1,): 2},), ({(0,): 1},)), ((0, 1), ((4,),), ((1,),))),
    (APART, APART_PAPER, ("no point", 7, 1, ({(1,): 2}, {(0,): 3, (1,): 1}), ()), (0, ({(0,): 1}, {(0,): 5}))),
]


class Examples(Case):
    def test_examples(self):
        self.assertEqual([but_number(HALVES, (HALF,)), led(HALVES, 3), led_paper(HALVES, (HALF,), 3),
                          every_answer(HALVES, (HALF,))[0][2], left_out_primes(60)],
                         [2, ("solved", 3, ((2,),), (1,)), (2,), 2, (2, 3, 5)])
        self.assertEqual([but_number(TOPS, TOPS_PAPER), led_paper(TOPS, TOPS_PAPER, 5)], [4, ((4, 2), (1, 2))])
        self.assertEqual([but_number(APART, APART_PAPER), led(APART, 2)],
                         [6, ("no point", 2, 1, ({}, {(0,): 1, (1,): 1}), ())])
        self.refuses(errors.InvalidOperation, led_paper, HALVES, (HALF,), 2)

    def test_the_ten_kinds(self):
        self.assertEqual(every_kinds(), EVERY)
        self.assertEqual({claim[0] for claim, _, _, _ in LED}, set(EVERY))

    def test_not_true(self):
        # [17.6]: 6 is divided by 3, but the claim is true modulo 3, too.
        self.assertEqual(but_number(APART, APART_PAPER) % 3, 0)
        self.assertTrue(takes(led(("solved", 0, ((TWO,),), (ONE,)), 3), (2,)))
        self.assertEqual(but_number(("solved", 0, (((3, 1),),), ((3, 1),)), (ONE,)), 1)
        self.assertTrue(takes(("all primes but", ("solved", 0, ((ONE,),), (ONE,)), 3), (ONE,)))
        # t * t - 2 is unsplit over the fractions, but parted modulo 7.
        self.assertTrue(takes(("parted", 7, (5, 0, 1)), ((4, 1), (3, 1))))


class Refusals(Case):
    def test_refusals(self):
        self.check_refusals(led, (HALVES, 3), (CLAIM, PRIME))
        self.check_refusals(every_answer, (HALVES, (HALF,)), (CLAIM,))
        self.check_refusals(but_number, (HALVES, (HALF,)), (CLAIM,))
        self.check_refusals(left_out_primes, (60,), ((errors.InvalidNumber, "given",
                                                      lambda value: is_integer(value) and value >= 1),))

    def test_led_paper(self):
        for value in ODD:
            self.refuses(errors.InvalidClaim, led_paper, value, (HALF,), 4)
            if not (is_ground(value) and value != 0):
                self.assertIs(self.refuses(errors.InvalidGround, led_paper, HALVES, None, value).value, value)
            # What is no paper comes behind the errors of all parameters.
            if value == (HALF,):
                continue
            self.refuses(errors.InvalidOperation, led_paper, HALVES, value, 3)
            self.refuses(errors.InvalidOperation, but_number, HALVES, value)
            self.refuses(errors.InvalidOperation, every_answer, HALVES, value)
        self.refuses(errors.InvalidOperation, led_paper, HALVES, (HALF,), 2)

    def test_claims_that_can_not_be_led(self):
        for wrong in (("prime", 7), ("solved", 5, ((2,),), (1,)), ("solved", 0, ((TWO,),)), ("whole", ((1,),), (1,)),
                      ("unsplit", 0, (ONE, ONE)), ("outside", 0, 1, {}, ()), ("unlike lots", 0, 1, (), ()),
                      ("solved", False, ((TWO,),), (ONE,)), ("parted", 0, (ONE, ONE)), ["solved", 0, ((TWO,),), (ONE,)],
                      ("all primes but", HALVES, 2), Book(), ("solved", 0, (((2, 2),),), (ONE,))):
            for call, args in ((led, (3,)), (led_paper, ((HALF,), 3)), (but_number, ((HALF,),)), (every_answer, ((HALF,),))):
                self.refuses(errors.InvalidClaim, call, wrong, *args)
        self.refuses(errors.InvalidClaim, led, ("prime", 7), 4)
        self.refuses(errors.InvalidGround, led, ("solved", 0, ((HALF,),), (ONE,)), 0)

    def test_primes_that_divide_a_bottom(self):
        for claim, prime in ((("solved", 0, (((1, 6),),), (ONE,)), 3), (("solved", 0, ((ONE,),), (HALF,)), 2), (TOPS, 2),
                             (("parted", 0, (ONE, ONE, (-15, 1))), 5), (("within", 0, 1, {(3,): (1, 35)}, ()), 7),
                             (("common", 0, (ONE, (7, 1)), (), ((1, 7), ONE)), 7)):
            self.refuses(errors.InvalidOperation, led, claim, prime)
            self.assertTrue(is_claim(led(claim, 11)))
        # The top of a head number bars for "parted" alone.
        self.assertEqual(led(("common", 0, (ONE, TWO), (), (HALF, ONE)), 3), ("common", 3, (1, 2), (), (2, 1)))
        self.assertEqual(led(("common", 0, (ONE, TWO), (), ()), 2), ("common", 2, (1,), (), ()))


class Led(Case):
    def test_each_kind(self):
        for claim, paper, wanted, led_one in LED:
            if paper is None:
                self.assertTrue(is_claim(claim))
                continue
            self.assertTrue(takes(claim, paper), claim)
            self.assertEqual((led(claim, 7), led_paper(claim, paper, 7)), (wanted, led_one))
            self.assertTrue(takes(wanted, led_one), wanted)
            self.assertTrue(is_ascending((led(claim, 7), led_paper(claim, paper, 7))))

    def test_answers(self):
        source = random.Random(1)
        seen = set()
        for _ in range(25):
            for claim, paper in answers(source):
                if claim[0] in EVERY and claim[1] == 0:
                    seen.add(claim[0])
                    self.check(claim, paper)
        self.assertEqual(seen, set(EVERY))

    def check(self, claim, paper):
        number = but_number(claim, paper)
        bottoms = told_bottoms(claim, paper)
        self.assertTrue(all(number % bottom == 0 for bottom in bottoms))
        for q in PRIMES:
            if number % q == 0:
                self.assertFalse(all((number // q) % bottom == 0 for bottom in bottoms))
        every, shown = every_answer(claim, paper)
        self.assertEqual((every, shown), (("all primes but", claim, number), paper))
        self.assertTrue(takes(every, shown) and is_paper(every, shown))
        for prime in PRIMES:
            if all(bottom % prime for bottom in bottoms):
                found, led_one = led(claim, prime), led_paper(claim, paper, prime)
                self.assertEqual((found[:2], len(found)), ((claim[0], prime), len(claim)))
                self.assertTrue(is_made(found) and takes(found, led_one) and is_paper(found, led_one), claim)
            else:
                self.refuses(errors.InvalidOperation, led_paper, claim, paper, prime)
                # A number that leaves out a bottom.
                rest = number
                while rest % prime == 0:
                    rest //= prime
                self.assertFalse(takes(("all primes but", claim, rest), paper))
                self.assertTrue(takes(("all primes but", claim, rest * prime), paper))

    def test_numbers_read(self):
        for prime in PRIMES:
            for number in ((1, 1), (-1, 1), (5, 8), (-7, 9), (10 ** 50, 11), (0, 1)):
                if number[1] % prime:
                    found = led(("solved", 0, ((number,),), (number,)), prime)
                    self.assertEqual(found, ("solved", prime, ((told(prime, number[0]) * pow(number[1], -1, prime) % prime,),),
                                             (told(prime, number[0]) * pow(number[1], -1, prime) % prime,)))

    def test_what_becomes_nothing(self):
        self.assertEqual(led(("within", 0, 1, {(2,): (3, 1)}, ({(1,): (3, 2), (0,): ONE},)), 3),
                         ("within", 3, 1, {}, ({(0,): 1},)))
        self.assertEqual(led(("common", 0, ((3, 1), (6, 1)), (ONE, (3, 1)), (ONE,)), 3), ("common", 3, (), (1,), (1,)))
        self.assertEqual(led(("solved", 0, (((3, 1), ZERO),), ((6, 1),)), 3), ("solved", 3, ((0, 0),), (0,)))

    def test_long_numbers(self):
        long = 10 ** 90
        claim, paper = ("solved", 0, (((long, 1),),), (ONE,)), ((1, long),)
        self.assertEqual(but_number(claim, paper), long)
        self.assertEqual(led_paper(claim, paper, 7), (pow(long, -1, 7),))
        self.assertTrue(takes(("all primes but", claim, 10), paper) and takes(("all primes but", claim, 20), paper))
        self.assertFalse(takes(("all primes but", claim, 5), paper) or takes(("all primes but", claim, 1), paper))

    def test_nothing_is_shared(self):
        form = {(1,): ONE, (0,): TWO}
        claim, paper = ("within", 0, 1, form, (form,)), ({(0,): ONE},)
        every, shown = every_answer(claim, paper)
        self.assertEqual(list(every[1][3]), [(0,), (1,)])
        every[1][3].clear()
        shown[0].clear()
        self.assertEqual((form, paper), ({(1,): ONE, (0,): TWO}, ({(0,): ONE},)))

    def test_values_near(self):
        source = random.Random(2)
        for claim, paper, _, _ in LED:
            if paper is not None:
                every, shown = every_answer(claim, paper)
                for _ in range(40):
                    other = near(source, every)
                    self.assertIs(is_claim(other), is_made(other), other)
                    self.assertIs(takes(other, shown), is_paper(other, shown), other)
                    tried = near(source, shown)
                    self.assertIs(takes(every, tried), is_paper(every, tried), (every, tried))


class LeftOut(Case):
    def test_left_out_primes(self):
        self.assertEqual(left_out_primes(1), ())
        self.assertEqual(left_out_primes(9973 * 10007), (9973,))
        self.assertEqual(left_out_primes(2 ** 150), (2,))
        for number in (7 * 11 * 13 * 9967, BIG, 30030, 10007):
            self.assertEqual(left_out_primes(number), tuple(
                q for q in range(2, 10000) if gcd(q, number) == q and all(q % k for k in range(2, int(q ** 0.5) + 1))))
        for wrong in (0, -1, True, None, (1, 1), BIG + 1):
            self.assertIs(self.refuses(errors.InvalidNumber, left_out_primes, wrong).given, wrong)

    def test_numbers_of(self):
        self.assertEqual(numbers_of(({(1,): ONE}, {(0,): TWO})), [ONE, TWO])
