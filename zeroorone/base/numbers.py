"""Grounds, their numbers, common divisors and rests (stage 1)."""
from math import gcd

from zeroorone.base.plain import SIXTY_DIGITS, check_between, check_ground, check_integer, check_number
from zeroorone.base.plain import check_prime_ground, minus, over, plus
from zeroorone.errors import InvalidOperation
from zeroorone.paper.numbers import bezout, ground_fits, is_below, is_zero, number_fits, number_of, power, quotient
from zeroorone.paper.numbers import sign_of_difference, times

MAX_GROUND = 9999
MAX_DIGITS = 60
MAX_EXPONENT = 1000
MAX_RESTS = 6


def is_ground(value):
    """Whether the value is 0 or a prime below 10,000."""
    return ground_fits(value)


def is_number(ground, value):
    """Whether the value is a number of the ground with integers of at most sixty digits."""
    check_ground(ground)
    return number_fits(ground, value, SIXTY_DIGITS)


def whole(ground, number):
    """The number of the ground that an integer stands for."""
    check_ground(ground)
    check_integer(number)
    return number_of(ground, number)


def fraction(top, bottom):
    """The fraction that is the quotient of two integers."""
    check_integer(top)
    check_integer(bottom)
    if bottom == 0:
        raise InvalidOperation("no quotient by 0")
    return quotient(0, top, bottom)


def check_two(ground, one, other):
    """Refuse a wrong ground, and then the first value that is no number of it."""
    check_ground(ground)
    check_number(ground, one)
    check_number(ground, other)


def added(ground, one, other):
    """The sum of two numbers of the ground."""
    check_two(ground, one, other)
    return plus(ground, one, other)


def subtracted(ground, one, other):
    """The difference of two numbers of the ground."""
    check_two(ground, one, other)
    return minus(ground, one, other)


def multiplied(ground, one, other):
    """The product of two numbers of the ground."""
    check_two(ground, one, other)
    return times(ground, one, other)


def divided(ground, one, other):
    """The quotient of two numbers of the ground."""
    check_two(ground, one, other)
    if is_zero(ground, other):
        raise InvalidOperation("no quotient by 0")
    return over(ground, one, other)


def raised(ground, one, exponent):
    """The power of a number of the ground."""
    check_ground(ground)
    check_number(ground, one)
    check_between(exponent, -MAX_EXPONENT, MAX_EXPONENT)
    if exponent >= 0:
        return power(ground, one, exponent)
    if is_zero(ground, one):
        raise InvalidOperation("no power of 0 with an exponent below 0")
    return power(ground, over(ground, number_of(ground, 1), one), -exponent)


def compared(one, other):
    """-1, 0 or 1 as the first fraction is less than the second one, equal to it, or greater."""
    check_number(0, one)
    check_number(0, other)
    return sign_of_difference(one, other)


def rounded(one):
    """The greatest integer not above a fraction."""
    check_number(0, one)
    return one[0] // one[1]


def read_at(prime, one):
    """The fraction, read as a number of the prime."""
    check_prime_ground(prime)
    check_number(0, one)
    if one[1] % prime == 0:
        raise InvalidOperation("the prime divides the bottom")
    return quotient(prime, one[0], one[1])


def divisor_answer(one, other):
    """The claim about the common divisor of two integers, and a paper."""
    check_integer(one)
    check_integer(other)
    common, u, v = bezout(one, other)
    # Of 0 and 0 each integer, times the divisor 0, makes both.
    share = max(common, 1)
    return (("divisor", one, other, common), (u, v, one // share, other // share))


def are_pairs(value):
    """Whether the value is a tuple of one to six pairs of a modulus and a rest."""
    if not isinstance(value, tuple) or len(value) < 1 or len(value) > MAX_RESTS:
        return False
    for pair in value:
        if not isinstance(pair, tuple) or len(pair) != 2:
            return False
        modulus, rest = pair
        if not is_below(modulus, SIXTY_DIGITS) or not is_below(rest, SIXTY_DIGITS) or modulus < 1:
            return False
    return True


def first_clash(pairs):
    """The first two indices of pairs that disagree, and the divisor that tells it; None if there are none."""
    for i in range(len(pairs)):
        for j in range(i + 1, len(pairs)):
            common = gcd(pairs[i][0], pairs[j][0])
            if (pairs[i][1] - pairs[j][1]) % common != 0:
                return (i, j, common)
    return None


def joint_rest(pairs):
    """The least x from 0 on with all the rests; each two pairs agree."""
    modulus, x = 1, 0
    for further, rest in pairs:
        common, u, _ = bezout(modulus, further)
        # u times the modulus leaves the common divisor by the further one.
        x = x + modulus * u * ((rest - x) // common)
        modulus = modulus // common * further
        x = x % modulus
    return x


def rests_answer(pairs):
    """The claim whether an integer has these rests by these moduli, and a paper."""
    if not are_pairs(pairs):
        raise InvalidOperation("no pairs of moduli and rests")
    clash = first_clash(pairs)
    if clash is None:
        return (("rests", pairs), joint_rest(pairs))
    return (("no rests", pairs), clash)
