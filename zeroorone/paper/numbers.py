"""Integers, grounds and their numbers, of any length, without checks: sums, products, quotients."""
from math import gcd

LAST_GROUND = 9999


def is_int(value):
    """Whether the value is an integer, of any length."""
    return isinstance(value, int) and not isinstance(value, bool)


def is_below(value, limit):
    """Whether the value is an integer with a size below the limit, of any length for None."""
    return is_int(value) and (limit is None or -limit < value < limit)


def is_between(value, low, high):
    """Whether the value is an integer from low to high; None bars nothing."""
    return is_int(value) and value >= low and (high is None or value <= high)


def has_no_parts(number):
    """Whether the integer is a prime."""
    if number < 4 or number % 2 == 0:
        return number in (2, 3)
    divisor = 3
    while divisor * divisor <= number and number % divisor != 0:
        divisor += 2
    return divisor * divisor > number


def prime_fits(value, most):
    """Whether the value is a prime of at most so much."""
    return is_between(value, 2, most) and has_no_parts(value)


def ground_fits(value):
    """Whether the value is a ground."""
    return is_int(value) and (value == 0 or prime_fits(value, LAST_GROUND))


def number_fits(ground, value, limit):
    """Whether the value is a number of the ground with integers below the limit."""
    if ground != 0:
        return is_int(value) and 0 <= value < ground
    if not isinstance(value, tuple) or len(value) != 2:
        return False
    top, bottom = value
    if not is_below(top, limit) or not is_below(bottom, limit):
        return False
    return bottom >= 1 and gcd(top, bottom) == 1


def vector_fits(ground, value, many, limit):
    """Whether the value is a tuple of so many numbers of the ground, below the limit."""
    if not isinstance(value, tuple) or len(value) != many:
        return False
    return all([number_fits(ground, number, limit) for number in value])


def is_row(value, many):
    """Whether the value is a tuple of so many members."""
    return isinstance(value, tuple) and len(value) == many


def are_integers(value, many):
    """Whether the value is a tuple of so many integers, of any length."""
    return is_row(value, many) and all([is_int(number) for number in value])


def are_indices(value, many, below):
    """Whether the value is an ascending tuple of so many indices below a number."""
    if not are_integers(value, many) or not all([0 <= index < below for index in value]):
        return False
    return ascend(value)


def ascend(row):
    """Whether the members of a row ascend."""
    return all([row[at] < row[at + 1] for at in range(len(row) - 1)])


def bezout(one, other):
    """(g, u, v): the greatest common divisor, from 0 on, and u one + v other = g."""
    rest, after = one, other
    u, later_u = 1, 0
    v, later_v = 0, 1
    while after != 0:
        often = rest // after
        rest, after = after, rest - often * after
        u, later_u = later_u, u - often * later_u
        v, later_v = later_v, v - often * later_v
    if rest < 0:
        return (-rest, -u, -v)
    return (rest, u, v)


def undone_modulo(number, modulus):
    """What times the number leaves 1; both have no common divisor above 1."""
    return bezout(number % modulus, modulus)[1] % modulus


def power_modulo(number, exponent, modulus):
    """The rest of a power with an exponent from 0 on."""
    result = 1 % modulus
    base = number % modulus
    while exponent > 0:
        if exponent % 2 == 1:
            result = result * base % modulus
        base = base * base % modulus
        exponent = exponent // 2
    return result


def integer_power(number, exponent):
    """The power with an exponent from 0 on."""
    result = 1
    base = number
    while exponent > 0:
        if exponent % 2 == 1:
            result = result * base
        exponent = exponent // 2
        if exponent > 0:
            base = base * base
    return result


def common_multiple(numbers):
    """The least common multiple of integers above 0."""
    result = 1
    for number in numbers:
        result = result // gcd(result, number) * number
    return result


def quotient(ground, top, bottom):
    """The number of the ground that is the quotient of two integers, the second one not 0 in it."""
    if ground != 0:
        return top * undone_modulo(bottom, ground) % ground
    common = gcd(top, bottom)
    if bottom < 0:
        common = -common
    return (top // common, bottom // common)


def top_of(ground, number):
    """The integer that the number is a quotient of."""
    return number[0] if ground == 0 else number


def bottom_of(ground, number):
    """The integer by which the quotient was made, 1 modulo a prime."""
    return number[1] if ground == 0 else 1


def number_of(ground, integer):
    """The number of the ground that an integer stands for."""
    return (integer, 1) if ground == 0 else integer % ground


def is_zero(ground, number):
    """Whether the number is 0."""
    return top_of(ground, number) == 0


def is_one(ground, number):
    """Whether the number is 1."""
    return number == number_of(ground, 1)


def times(ground, one, other):
    """The product of two numbers."""
    if ground != 0:
        return one * other % ground
    return quotient(0, one[0] * other[0], one[1] * other[1])


def opposite(ground, one):
    """The number that leads to 0 if it is added."""
    return (-one[0], one[1]) if ground == 0 else -one % ground


def power(ground, one, exponent):
    """The power of a number with an exponent from 0 on."""
    if ground != 0:
        return power_modulo(one, exponent, ground)
    return (integer_power(one[0], exponent), integer_power(one[1], exponent))


def whole_row(ground, numbers):
    """The integers of a vector times its least common bottom, and this bottom."""
    bottom = common_multiple([bottom_of(ground, number) for number in numbers])
    return ([top_of(ground, number) * (bottom // bottom_of(ground, number)) for number in numbers], bottom)


def integer_dot(one, other):
    """The sum of the products of two equally long rows of integers."""
    return sum([x * y for x, y in zip(one, other)])


def dot(ground, one, other):
    """The sum of the products of two equally long vectors."""
    numbers, bottom = whole_row(ground, one)
    others, below = whole_row(ground, other)
    return quotient(ground, integer_dot(numbers, others), bottom * below)


def sign_of(number):
    """-1, 0 or 1 as the integer is below 0, 0, or above it."""
    if number == 0:
        return 0
    return -1 if number < 0 else 1


def sign_of_difference(one, other):
    """-1, 0 or 1 as the first fraction is less than the second one, equal to it, or greater."""
    return sign_of(one[0] * other[1] - other[0] * one[1])


def is_at_most(one, other):
    """Whether the first one of two fractions is at most the second one."""
    return sign_of_difference(one, other) != 1
