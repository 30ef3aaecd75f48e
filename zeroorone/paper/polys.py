"""Polys of any degree and length, without checks.

Inside, a poly is a pair of its integers, by ascending powers, and of one bottom for all of them. The last integer is
not 0; over the ground 0 the bottom is above 0 and has nothing in common with all integers at once; modulo a prime the
bottom is 1, and the integers are rests. So equal polys are equal pairs.
"""
from math import gcd

from zeroorone.paper.numbers import is_zero, quotient, undone_modulo, vector_fits, whole_row

NOTHING = ((), 1)
UNIT = ((1,), 1)
LETTER = ((0, 1), 1)


def poly_fits(ground, value, most, limit):
    """Whether the value is a poly of the ground, with a degree to `most`, below the limit; None bars nothing."""
    if not isinstance(value, tuple) or most is not None and len(value) > most + 1:
        return False
    if not vector_fits(ground, value, len(value), limit):
        return False
    return len(value) == 0 or not is_zero(ground, value[-1])


def opened(ground, poly):
    """The inner poly of a poly."""
    numbers, bottom = whole_row(ground, poly)
    return (tuple(numbers), bottom)


def closed(ground, inner):
    """The poly of an inner poly."""
    numbers, bottom = inner
    if ground != 0:
        return numbers
    return tuple([quotient(0, number, bottom) for number in numbers])


def without_zeros(numbers):
    """The numbers without the zeros at their end."""
    many = len(numbers)
    while many > 0 and numbers[many - 1] == 0:
        many -= 1
    return tuple(numbers[:many])


def settled(ground, numbers, bottom):
    """The inner poly of integers over a bottom other than 0 in the ground."""
    if ground != 0:
        back = undone_modulo(bottom, ground)
        return (without_zeros([number * back % ground for number in numbers]), 1)
    common = abs(bottom)
    for number in numbers:
        common = gcd(common, number)
    if bottom < 0:
        common = -common
    return (without_zeros([number // common for number in numbers]), bottom // common)


def degree_of(inner):
    """The degree, -1 for 0."""
    return len(inner[0]) - 1


def head_of(ground, inner):
    """The head number of a poly other than 0."""
    return quotient(ground, inner[0][-1], inner[1])


def lengthened(numbers, many):
    """The numbers, and zeros behind them, so many in all."""
    return list(numbers) + [0] * (many - len(numbers))


def mixed(ground, one, other, sign):
    """The first inner poly, and the second one times the sign put to it."""
    many = max(len(one[0]), len(other[0]))
    left, right = lengthened(one[0], many), lengthened(other[0], many)
    return settled(ground, [x * other[1] + sign * y * one[1] for x, y in zip(left, right)], one[1] * other[1])


def sum_of(ground, one, other):
    """The sum of two inner polys."""
    return mixed(ground, one, other, 1)


def difference_of(ground, one, other):
    """The difference of two inner polys."""
    return mixed(ground, one, other, -1)


def product_of(ground, one, other):
    """The product of two inner polys."""
    numbers = [0] * (len(one[0]) + len(other[0]))
    for i, x in enumerate(one[0]):
        for j, y in enumerate(other[0]):
            numbers[i + j] += x * y
    return settled(ground, numbers, one[1] * other[1])


def power_of(ground, inner, many):
    """The power of an inner poly, 1 for 0."""
    result = UNIT
    for _ in range(many):
        result = product_of(ground, result, inner)
    return result


def divided_modulo(prime, one, other):
    """The quotient and the rest of two inner polys modulo a prime, the second one not 0."""
    lower = other[0][:-1]
    rest, parts = list(one[0]), []
    back = undone_modulo(other[0][-1], prime)
    while len(rest) > len(lower):
        head = rest.pop() * back % prime
        parts.append(head)
        if head != 0:
            start = len(rest) - len(lower)
            for j, number in enumerate(lower):
                rest[start + j] = (rest[start + j] - head * number) % prime
    return ((without_zeros(parts[::-1]), 1), (without_zeros(rest), 1))


def divided_by(ground, one, other):
    """The quotient and the rest of two inner polys, the second one not 0."""
    if ground != 0:
        return divided_modulo(ground, one, other)
    lower, lead = other[0][:-1], other[0][-1]
    rest, parts = list(one[0]), []
    scale = one[1]
    while len(rest) > len(lower):
        head = rest.pop()
        common = gcd(head, lead)
        up, head = lead // common, head // common
        if up != 1:
            rest, parts = [up * number for number in rest], [up * part for part in parts]
            scale = scale * up
        parts.append(head)
        start = len(rest) - len(lower)
        for j, number in enumerate(lower):
            rest[start + j] -= head * number
    return (settled(0, [part * other[1] for part in parts[::-1]], scale), settled(0, rest, scale))


def over_poly(ground, one, other):
    """The quotient of two inner polys of which the second one divides the first one."""
    return divided_by(ground, one, other)[0]


def monic(ground, inner):
    """The inner poly divided by its head number; 0 for 0."""
    if inner == NOTHING:
        return inner
    return settled(ground, inner[0], inner[0][-1])


def slope(ground, inner):
    """The derivative."""
    return settled(ground, [k * number for k, number in enumerate(inner[0])][1:], inner[1])


def rest_by(prime, inner, modulus):
    """The rest of an inner poly by another one."""
    return divided_by(prime, inner, modulus)[1]


def rest_of_power(prime, one, many, modulus):
    """The rest of a power, with an exponent from 0 on, by an inner poly other than 0."""
    result = rest_by(prime, UNIT, modulus)
    base = rest_by(prime, one, modulus)
    while many > 0:
        if many % 2 == 1:
            result = rest_by(prime, product_of(prime, result, base), modulus)
        many = many // 2
        if many > 0:
            base = rest_by(prime, product_of(prime, base, base), modulus)
    return result


def turns(prime, modulus, many):
    """The rests of t, t ** p, t ** (p ** 2) and so on, to the number `many`, by an inner poly other than 0."""
    rests = [rest_by(prime, LETTER, modulus)]
    for _ in range(many):
        rests.append(rest_of_power(prime, rests[-1], prime, modulus))
    return rests
