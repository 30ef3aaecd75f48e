"""Primes with papers, parts, divisors and orders (stage 2)."""
from math import gcd

from zeroorone.base.plain import check_between, check_integer, least_divisor
from zeroorone.errors import InvalidNumber, InvalidOperation
from zeroorone.paper.numbers import has_no_parts, integer_power, is_int, power_modulo

MOST = 10 ** 8


def is_prime(number):
    """Whether an integer from 0 to 10 ** 8 is a prime."""
    check_between(number, 0, MOST)
    return has_no_parts(number)


def next_prime(number):
    """The least prime above an integer from 0 to 10 ** 8."""
    check_between(number, 0, MOST)
    candidate = number + 1
    while not has_no_parts(candidate):
        candidate += 1
    return candidate


def prime_powers(number):
    """The pairs of the primes that divide an integer from 1 on, and of how often they do."""
    pairs = []
    left = number
    divisor = 2
    while divisor * divisor <= left:
        often = 0
        while left % divisor == 0:
            left = left // divisor
            often += 1
        if often > 0:
            pairs.append((divisor, often))
        divisor += 1 if divisor == 2 else 2
    if left > 1:
        pairs.append((left, 1))
    return tuple(pairs)


def least_maker_by(prime, parts):
    """The least maker of a prime, the parts being those of the prime less 1."""
    maker = 1
    while 1 in [power_modulo(maker, (prime - 1) // part, prime) for part, _ in parts]:
        maker += 1
    return maker


def prime_paper(number):
    """The rows that show a prime to be one, with rows for all primes above 2 that they need."""
    rows = {}
    waiting = [number]
    while waiting:
        prime = waiting.pop()
        if prime == 2 or prime in rows:
            continue
        parts = prime_powers(prime - 1)
        rows[prime] = (prime, least_maker_by(prime, parts), parts)
        waiting.extend([part for part, _ in parts])
    return tuple([rows[prime] for prime in sorted(rows)])


def prime_answer(number):
    """The claim that an integer is a prime, or that it is split, and a paper."""
    check_between(number, 2, MOST)
    divisor = least_divisor(number)
    if divisor == number:
        return (("prime", number), prime_paper(number))
    return (("split", number), (divisor, number // divisor))


def prime_parts_answer(number):
    """The claim about the prime parts of an integer, and a paper."""
    check_between(number, 1, MOST)
    parts = prime_powers(number)
    return (("prime parts", number, parts), tuple([prime_paper(prime) for prime, _ in parts]))


def divisors(number):
    """The ascending tuple of all divisors from 1 on."""
    check_between(number, 1, MOST)
    found = [1]
    for prime, often in prime_powers(number):
        powers = [integer_power(prime, exponent) for exponent in range(often + 1)]
        found = [divisor * factor for divisor in found for factor in powers]
    return tuple(sorted(found))


def count_units(parts):
    """The number of units of an integer with these prime parts."""
    many = 1
    for prime, often in parts:
        many = many * (prime - 1) * integer_power(prime, often - 1)
    return many


def units_number(number):
    """How many integers from 1 to the number have no common divisor above 1 with it."""
    check_between(number, 1, MOST)
    return count_units(prime_powers(number))


def order_of(modulus, number):
    """The least exponent from 1 on for which the power leaves the rest of 1."""
    check_between(modulus, 1, MOST)
    check_integer(number)
    if gcd(modulus, number) != 1:
        raise InvalidOperation("a common divisor above 1")
    order = count_units(prime_powers(modulus))
    for prime, often in prime_powers(order):
        for _ in range(often):
            if power_modulo(number, order // prime, modulus) == 1 % modulus:
                order = order // prime
    return order


def least_maker(prime):
    """The least maker from 1 on of a prime to 10 ** 8."""
    if not is_int(prime) or prime > MOST or not has_no_parts(prime):
        raise InvalidNumber(prime)
    return least_maker_by(prime, prime_powers(prime - 1))
