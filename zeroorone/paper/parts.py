"""The claims and papers about parts of polys, modulo a prime and over the fractions (stages 7 and 8)."""
from math import gcd

from zeroorone.paper.letter import all_opened, are_polys, is_mix, is_monic_part, is_power_product, is_product, polys_fit
from zeroorone.paper.numbers import are_integers, ascend, ground_fits, has_no_parts, integer_power, is_between, is_row
from zeroorone.paper.numbers import prime_fits
from zeroorone.paper.polys import LETTER, UNIT, degree_of, difference_of, opened, rest_by, settled, turns

MOST_LIFTS = 12
MOST_EXPONENT = 10 ** 4
LAST_LIFTING = 10 ** 5 - 1


def unsplit_fits(ground, poly):
    """Whether the claim that a poly is unsplit is well made."""
    return ground_fits(ground) and is_monic_part(ground, poly)


def parted_fits(ground, poly):
    """Whether the claim that a poly is parted is well made."""
    return ground_fits(ground) and polys_fit(ground, (poly,)) and len(poly) >= 3


def shows_parted(paper, ground, poly):
    """Whether two polys of a degree of at least 1 have the poly as their product."""
    if not are_polys(ground, paper, 2) or len(paper[0]) < 2 or len(paper[1]) < 2:
        return False
    one, other = all_opened(ground, paper)
    return is_product(ground, one, other, opened(ground, poly))


def prime_divisors(number):
    """The ascending primes that divide a number from 1 on."""
    return [divisor for divisor in range(2, number + 1) if number % divisor == 0 and has_no_parts(divisor)]


def shows_unsplit_modulo(paper, prime, poly):
    """Whether the paper shows that a monic poly of a degree of at least 1 is unsplit modulo a prime."""
    inner = opened(prime, poly)
    many = degree_of(inner)
    lower = [many // divisor for divisor in prime_divisors(many)]
    if not is_row(paper, len(lower)) or not all([are_polys(prime, pair, 2) for pair in paper]):
        return False
    rests = turns(prime, inner, many)
    if rests[many] != rest_by(prime, LETTER, inner):
        return False
    return all([
        is_mix(prime, all_opened(prime, pair), inner, difference_of(prime, rests[at], LETTER), UNIT)
        for pair, at in zip(paper, lower)
    ])


def whole_row_of(inner):
    """The whole row of an inner poly other than 0."""
    common = 0
    for number in inner[0]:
        common = gcd(common, number)
    if inner[0][-1] < 0:
        common = -common
    return tuple([number // common for number in inner[0]])


def bound_of(whole):
    """What no integer of a row that divides this one, made as long in its last integer, is above in size."""
    return integer_power(2, len(whole) - 1) * sum([abs(number) for number in whole])


def product_modulo(modulus, rows):
    """The product of rows of integers, its integers rests by the modulus."""
    product_row = [1]
    for row in rows:
        longer = [0] * (len(product_row) + len(row) - 1)
        for i, x in enumerate(product_row):
            for j, y in enumerate(row):
                longer[i + j] += x * y
        product_row = [number % modulus for number in longer]
    return product_row


def made_small(number, modulus):
    """The integer above minus half of the modulus, and at most half of it, with the same rest."""
    rest = number % modulus
    return rest - modulus if 2 * rest > modulus else rest


def whole_quotient(whole, divisor):
    """The whole row that times the divisor, a whole row, makes this row; None if there is none."""
    left = list(whole)
    top = len(divisor) - 1
    numbers = []
    for at in reversed(range(len(whole) - top)):
        often, rest = divmod(left[at + top], divisor[top])
        if rest != 0:
            return None
        numbers.append(often)
        for j, number in enumerate(divisor):
            left[at + j] -= often * number
    if any([number != 0 for number in left]):
        return None
    return tuple(reversed(numbers))


def lot_row(whole, modulus, made):
    """The whole row of the last integer times the product of a lot of lifts, made small."""
    return whole_row_of(([made_small(whole[-1] * number, modulus) for number in made], 1))


def lots_divide(whole, modulus, lifts, made, most):
    """Whether a product of lifts, and at most so many of further ones, gives a row that divides the whole row."""
    for at, lift in enumerate(lifts):
        further = product_modulo(modulus, [made, lift])
        if whole_quotient(whole, lot_row(whole, modulus, further)) is not None:
            return True
        if most > 1 and lots_divide(whole, modulus, lifts[at + 1:], further, most - 1):
            return True
    return False


def lifts_fit(whole, modulus, lifts):
    """Whether the lifts are monic rows modulo a power, whose product, times the last integer, is the whole row."""
    if not isinstance(lifts, tuple) or len(lifts) > MOST_LIFTS:
        return False
    for row in lifts:
        if not isinstance(row, tuple) or len(row) < 2 or not are_integers(row, len(row)) or row[-1] != 1:
            return False
        if not all([0 <= number < modulus for number in row]):
            return False
    if sum([len(row) - 1 for row in lifts]) != len(whole) - 1:
        return False
    made = product_modulo(modulus, lifts)
    return all([(number - whole[-1] * part) % modulus == 0 for number, part in zip(whole, made)])


def shows_unsplit_fraction(paper, poly):
    """Whether the paper shows that a monic poly of a degree of at least 1 is unsplit over the fractions."""
    if len(poly) == 2:
        return is_row(paper, 0)
    if not is_row(paper, 4) or not prime_fits(paper[0], LAST_LIFTING) or not is_between(paper[1], 1, MOST_EXPONENT):
        return False
    prime, many, lifts, papers = paper
    whole = whole_row_of(opened(0, poly))
    modulus = integer_power(prime, many)
    if whole[-1] % prime == 0 or modulus <= 2 * bound_of(whole) or not lifts_fit(whole, modulus, lifts):
        return False
    parts = [settled(prime, row, 1)[0] for row in lifts]
    if len({part for part in parts}) != len(parts) or not is_row(papers, len(parts)):
        return False
    if not all([shows_unsplit_modulo(shown, prime, part) for shown, part in zip(papers, parts)]):
        return False
    return len(parts) < 2 or not lots_divide(whole, modulus, lifts, (1,), len(parts) // 2)


def shows_unsplit(paper, ground, poly):
    """Whether the paper shows that a monic poly of a degree of at least 1 is unsplit."""
    if ground == 0:
        return shows_unsplit_fraction(paper, poly)
    return shows_unsplit_modulo(paper, ground, poly)


def parts_fit(ground, poly, row):
    """Whether the claim about the parts of a poly is well made."""
    if not ground_fits(ground) or not polys_fit(ground, (poly,)) or len(poly) == 0 or not isinstance(row, tuple):
        return False
    for pair in row:
        if not is_row(pair, 2) or not is_monic_part(ground, pair[0]) or not is_between(pair[1], 1, None):
            return False
    if not ascend([(len(part), part) for part, _ in row]):
        return False
    return is_power_product(ground, poly, row)


def shows_parts(paper, ground, poly, row):
    """Whether there is a paper for each part of the poly that it is unsplit."""
    if not is_row(paper, len(row)):
        return False
    return all([shows_unsplit(shown, ground, part) for shown, (part, _) in zip(paper, row)])


PART_KINDS = {
    "unsplit": (2, unsplit_fits, shows_unsplit),
    "parted": (2, parted_fits, shows_parted),
    "parts": (3, parts_fit, shows_parts),
}
