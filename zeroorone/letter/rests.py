"""Polys: sums, products, rests, and what they have in common (stage 6)."""
from zeroorone.base.plain import SIXTY_DIGITS, check_between, check_ground, check_number, plus
from zeroorone.errors import InvalidOperation, InvalidPoly
from zeroorone.letter.inner import common_part, common_with_sums
from zeroorone.paper.numbers import number_of, opposite, power, times
from zeroorone.paper.polys import LETTER, NOTHING, UNIT, closed, degree_of, difference_of, divided_by, head_of, monic
from zeroorone.paper.polys import opened, over_poly, poly_fits, power_of, product_of, slope, sum_of

MAX_DEGREE = 12
MOST_PAIRS = 4


def is_poly(ground, value):
    """Whether the value is a poly of the ground, of any degree, with integers of at most sixty digits."""
    check_ground(ground)
    return poly_fits(ground, value, None, SIXTY_DIGITS)


def check_poly(ground, poly):
    """Refuse what is no poly of the ground with a degree of at most twelve."""
    if not poly_fits(ground, poly, MAX_DEGREE, SIXTY_DIGITS):
        raise InvalidPoly("no poly of the ground")


def inner_of(ground, poly):
    """The inner poly of a poly; what is none is refused."""
    check_poly(ground, poly)
    return opened(ground, poly)


def poly_sum(ground, one, other):
    """The sum of two polys."""
    check_ground(ground)
    return closed(ground, sum_of(ground, inner_of(ground, one), inner_of(ground, other)))


def poly_less(ground, one, other):
    """The difference of two polys."""
    check_ground(ground)
    return closed(ground, difference_of(ground, inner_of(ground, one), inner_of(ground, other)))


def poly_product(ground, one, other):
    """The product of two polys."""
    check_ground(ground)
    return closed(ground, product_of(ground, inner_of(ground, one), inner_of(ground, other)))


def poly_scaled(ground, poly, number):
    """The poly times a number of the ground."""
    check_ground(ground)
    inner = inner_of(ground, poly)
    check_number(ground, number)
    return closed(ground, product_of(ground, inner, constant(ground, number)))


def constant(ground, number):
    """The inner poly that a number is."""
    return opened(ground, (number,)) if number != number_of(ground, 0) else NOTHING


def poly_power(ground, poly, many):
    """The power of a poly with an exponent from 0 to 12."""
    check_ground(ground)
    inner = inner_of(ground, poly)
    check_between(many, 0, MAX_DEGREE)
    return closed(ground, power_of(ground, inner, many))


def poly_divided(ground, one, other):
    """The pair of the quotient and the rest."""
    check_ground(ground)
    inner, divisor = inner_of(ground, one), inner_of(ground, other)
    if divisor == NOTHING:
        raise InvalidOperation("no quotient by 0")
    often, rest = divided_by(ground, inner, divisor)
    return (closed(ground, often), closed(ground, rest))


def number_at(ground, poly, number):
    """The value of the poly at a number, without checks."""
    value = number_of(ground, 0)
    for part in reversed(poly):
        value = plus(ground, times(ground, value, number), part)
    return value


def value_at(ground, poly, number):
    """The value of the poly at a number."""
    check_ground(ground)
    check_poly(ground, poly)
    check_number(ground, number)
    return number_at(ground, poly, number)


def shifted(ground, poly, number):
    """The poly with t + number put in for t."""
    check_ground(ground)
    check_poly(ground, poly)
    check_number(ground, number)
    letter = sum_of(ground, LETTER, constant(ground, number))
    result = NOTHING
    for part in reversed(poly):
        result = sum_of(ground, product_of(ground, result, letter), constant(ground, part))
    return closed(ground, result)


def derived(ground, poly):
    """The derivative."""
    check_ground(ground)
    return closed(ground, slope(ground, inner_of(ground, poly)))


def monic_of(ground, poly):
    """The poly divided by its head number."""
    check_ground(ground)
    return closed(ground, monic(ground, inner_of(ground, poly)))


def closed_all(ground, inners):
    """The tuple of the polys of these inner polys."""
    return tuple([closed(ground, inner) for inner in inners])


def common_answer(ground, one, other):
    """The claim about what two polys have in common, and a paper."""
    check_ground(ground)
    inner, further = inner_of(ground, one), inner_of(ground, other)
    common, u, v = common_with_sums(ground, inner, further)
    paper = (u, v) + shares(ground, common, inner, further)
    return (("common", ground, one, other, closed(ground, common)), closed_all(ground, paper))


def shares(ground, divisor, one, other):
    """What the divisor times makes the first and the second inner poly; 0 for 0."""
    if divisor == NOTHING:
        return (NOTHING, NOTHING)
    return (over_poly(ground, one, divisor), over_poly(ground, other, divisor))


def mix_answer(ground, one, other, wish):
    """The claim that a poly is mixed of two others, or never is, and a paper."""
    check_ground(ground)
    inner, further, aim = inner_of(ground, one), inner_of(ground, other), inner_of(ground, wish)
    common, u, v = common_with_sums(ground, inner, further)
    if common == NOTHING:
        # All mixed polys are 0 then, and of a higher power of t each wish is a rest.
        common = power_of(ground, LETTER, degree_of(aim) + 1)
    often, rest = divided_by(ground, aim, common)
    if rest != NOTHING:
        paper = (common,) + shares(ground, common, inner, further) + (often, rest)
        return (("never mixed", ground, one, other, wish), closed_all(ground, paper))
    paper = (product_of(ground, often, u), product_of(ground, often, v))
    return (("mixed", ground, one, other, wish), closed_all(ground, paper))


def inner_pairs(ground, pairs):
    """The pairs of inner polys of one to four pairs of polys, the first ones not 0; the rest is refused."""
    if not isinstance(pairs, tuple) or len(pairs) < 1 or len(pairs) > MOST_PAIRS:
        raise InvalidPoly("no tuple of one to four pairs")
    found = []
    for pair in pairs:
        if not isinstance(pair, tuple) or len(pair) != 2 or pair[0] == ():
            raise InvalidPoly("no pair of polys, the first one not 0")
        found.append((inner_of(ground, pair[0]), inner_of(ground, pair[1])))
    return found


def clash_of(ground, i, j, first, second):
    """The paper that tells why no poly fits two pairs; None if one does."""
    common = common_part(ground, first[0], second[0])
    often, rest = divided_by(ground, difference_of(ground, first[1], second[1]), common)
    if rest == NOTHING:
        return None
    paper = (common,) + shares(ground, common, first[0], second[0]) + (often, rest)
    return (i, j) + closed_all(ground, paper)


def joined_rest(ground, pairs):
    """A poly with all the rests; each two pairs agree."""
    modulus, rest = UNIT, NOTHING
    for further, wanted in pairs:
        common, u, _ = common_with_sums(ground, modulus, further)
        share = over_poly(ground, further, common)
        missing = over_poly(ground, difference_of(ground, wanted, rest), common)
        # u times the modulus leaves what is common by the further poly.
        often = divided_by(ground, product_of(ground, u, missing), share)[1]
        rest = sum_of(ground, rest, product_of(ground, modulus, often))
        modulus = product_of(ground, modulus, share)
    return rest


def join_answer(ground, pairs):
    """The claim that some poly has these rests, or that none has, and a paper."""
    check_ground(ground)
    inners = inner_pairs(ground, pairs)
    for i in range(len(inners)):
        for j in range(i + 1, len(inners)):
            clash = clash_of(ground, i, j, inners[i], inners[j])
            if clash is not None:
                return (("never joined", ground, pairs), clash)
    rest = joined_rest(ground, inners)
    quotients = [over_poly(ground, difference_of(ground, rest, pair[1]), pair[0]) for pair in inners]
    return (("joined", ground, pairs), (closed(ground, rest), closed_all(ground, quotients)))


def unlike_parts(ground, inner):
    """(rows, left): rows of square parts of a monic poly; left is a power of a prime, 1 over the ground 0."""
    left = common_part(ground, inner, slope(ground, inner))
    # All parts whose exponents the prime does not divide, each once.
    once = over_poly(ground, inner, left)
    rows = []
    exponent = 1
    while once != UNIT:
        more = common_part(ground, once, left)
        part = over_poly(ground, once, more)
        if part != UNIT:
            rows.append((part, exponent))
        once, left = more, over_poly(ground, left, more)
        exponent += 1
    return (rows, left)


def square_rows(ground, inner):
    """The rows of square parts of an inner poly other than 0, ascending by their exponents."""
    rows = []
    left = monic(ground, inner)
    factor = 1
    while left != UNIT:
        found, left = unlike_parts(ground, left)
        rows.extend([(part, exponent * factor) for part, exponent in found])
        if left != UNIT:
            # Modulo a prime a power of the prime keeps the numbers; only the exponents are multiplied.
            left = (left[0][::ground], 1)
            factor = factor * ground
    return sorted(rows, key=lambda row: row[1])


def square_answer(ground, poly):
    """The claim about the square parts of a poly, and a paper."""
    check_ground(ground)
    inner = inner_of(ground, poly)
    if inner == NOTHING:
        raise InvalidOperation("no square parts of 0")
    rows = square_rows(ground, inner)
    own, pairs = [], []
    for index, (part, _) in enumerate(rows):
        own.append(closed_all(ground, common_with_sums(ground, part, slope(ground, part))[1:]))
        for further, _ in rows[index + 1:]:
            pairs.append(closed_all(ground, common_with_sums(ground, part, further)[1:]))
    claimed = tuple([(closed(ground, part), exponent) for part, exponent in rows])
    return (("square parts", ground, poly, claimed), (tuple(own), tuple(pairs)))


def resultant_way(ground, one, other):
    """The resultant of two inner polys other than 0, and the quotients on the way to it."""
    value = number_of(ground, 1)
    quotients = []
    while degree_of(other) > 0:
        often, rest = divided_by(ground, one, other)
        quotients.append(often)
        if rest == NOTHING:
            return (number_of(ground, 0), quotients)
        value = times(ground, value, power(ground, head_of(ground, other), degree_of(one) - degree_of(rest)))
        if degree_of(one) * degree_of(other) % 2 == 1:
            value = opposite(ground, value)
        one, other = other, rest
    return (times(ground, value, power(ground, head_of(ground, other), degree_of(one))), quotients)


def resultant_answer(ground, one, other):
    """The claim about the resultant of two polys, and a paper."""
    check_ground(ground)
    inner, further = inner_of(ground, one), inner_of(ground, other)
    if inner == NOTHING or further == NOTHING:
        raise InvalidOperation("no resultant with 0")
    value, quotients = resultant_way(ground, inner, further)
    return (("resultant", ground, one, other, value), closed_all(ground, quotients))
