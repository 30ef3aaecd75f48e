"""The claims and papers about rests of polys (stage 6)."""
from itertools import combinations

from zeroorone.paper.numbers import ascend, ground_fits, is_int, is_one, is_row, number_fits, number_of, opposite, power
from zeroorone.paper.numbers import times
from zeroorone.paper.polys import NOTHING, UNIT, degree_of, difference_of, head_of, opened, poly_fits, power_of
from zeroorone.paper.polys import product_of, slope, sum_of


def polys_fit(ground, values):
    """Whether all values are polys of the ground."""
    return all([poly_fits(ground, value, None, None) for value in values])


def are_polys(ground, value, many):
    """Whether the value is a tuple of so many polys of the ground."""
    return is_row(value, many) and polys_fit(ground, value)


def all_opened(ground, polys):
    """The inner polys of polys."""
    return [opened(ground, poly) for poly in polys]


def is_monic(ground, poly):
    """Whether a poly has the head number 1."""
    return len(poly) > 0 and is_one(ground, poly[-1])


def is_monic_part(ground, value):
    """Whether the value is a monic poly of a degree of at least 1."""
    return poly_fits(ground, value, None, None) and len(value) >= 2 and is_monic(ground, value)


def is_product(ground, one, other, whole):
    """Whether the product of two inner polys is a third one."""
    return product_of(ground, one, other) == whole


def is_mix(ground, pair, one, other, whole):
    """Whether the first inner poly, and the second one, times the two of the pair, add up to a third one."""
    left, right = product_of(ground, pair[0], one), product_of(ground, pair[1], other)
    return sum_of(ground, left, right) == whole


def is_rest(ground, often, divisor, rest, whole):
    """Whether the rest is not 0, of a lesser degree than the divisor, and what that many divisors leave of the whole.

    All are inner polys.
    """
    if rest == NOTHING or degree_of(rest) >= degree_of(divisor):
        return False
    return sum_of(ground, product_of(ground, often, divisor), rest) == whole


def common_fits(ground, one, other, common):
    """Whether the claim about what two polys have in common is well made."""
    if not ground_fits(ground) or not polys_fit(ground, (one, other, common)):
        return False
    return len(common) == 0 or is_monic(ground, common)


def shows_common(paper, ground, one, other, common):
    """Whether the poly is mixed of both, and divides both."""
    if not are_polys(ground, paper, 4):
        return False
    u, v, share, further = all_opened(ground, paper)
    inner, later, divisor = all_opened(ground, (one, other, common))
    if not is_mix(ground, (u, v), inner, later, divisor):
        return False
    return is_product(ground, share, divisor, inner) and is_product(ground, further, divisor, later)


def mixed_fits(ground, one, other, wish):
    """Whether the claim that a poly is mixed of two others, or never is, is well made."""
    return ground_fits(ground) and polys_fit(ground, (one, other, wish))


def shows_mixed(paper, ground, one, other, wish):
    """Whether the wish is mixed of both."""
    if not are_polys(ground, paper, 2):
        return False
    inner, later, wished = all_opened(ground, (one, other, wish))
    return is_mix(ground, all_opened(ground, paper), inner, later, wished)


def bars(ground, paper, one, other, wish):
    """Whether polys (h, c, d, q, r) show that h divides the first two inner polys, and leaves a rest of the third."""
    divisor, share, further, often, rest = all_opened(ground, paper)
    if not is_product(ground, share, divisor, one) or not is_product(ground, further, divisor, other):
        return False
    return is_rest(ground, often, divisor, rest, wish)


def shows_never_mixed(paper, ground, one, other, wish):
    """Whether a divisor of both leaves a rest of the wish."""
    if not are_polys(ground, paper, 5):
        return False
    inner, later, wished = all_opened(ground, (one, other, wish))
    return bars(ground, paper, inner, later, wished)


def joined_fits(ground, pairs):
    """Whether the claim that a poly has some rests, or that none has, is well made."""
    if not ground_fits(ground) or not isinstance(pairs, tuple):
        return False
    return all([are_polys(ground, pair, 2) and len(pair[0]) > 0 for pair in pairs])


def shows_joined(paper, ground, pairs):
    """Whether the poly leaves all the rests."""
    if not is_row(paper, 2) or not polys_fit(ground, paper[:1]) or not are_polys(ground, paper[1], len(pairs)):
        return False
    inner = opened(ground, paper[0])
    for often, (modulus, rest) in zip(paper[1], pairs):
        made = product_of(ground, opened(ground, often), opened(ground, modulus))
        if sum_of(ground, made, opened(ground, rest)) != inner:
            return False
    return True


def shows_never_joined(paper, ground, pairs):
    """Whether a divisor of two moduli leaves a rest of the difference of both rests."""
    if not is_row(paper, 7) or not is_int(paper[0]) or not is_int(paper[1]) or not polys_fit(ground, paper[2:]):
        return False
    i, j = paper[:2]
    if not 0 <= i < j < len(pairs):
        return False
    modulus, rest = all_opened(ground, pairs[i])
    further, later = all_opened(ground, pairs[j])
    return bars(ground, paper[2:], modulus, further, difference_of(ground, rest, later))


def power_product(ground, head, rows):
    """The inner poly that is a number, times the powers of inner polys."""
    result = product_of(ground, opened(ground, (head,)), UNIT)
    for inner, exponent in rows:
        result = product_of(ground, result, power_of(ground, inner, exponent))
    return result


def is_power_product(ground, poly, rows):
    """Whether a poly other than 0 is its head number times the powers of polys of a degree of at least 1."""
    if sum([(len(part) - 1) * exponent for part, exponent in rows]) != len(poly) - 1:
        return False
    opened_rows = [(opened(ground, part), exponent) for part, exponent in rows]
    return power_product(ground, poly[-1], opened_rows) == opened(ground, poly)


def square_parts_fit(ground, poly, rows):
    """Whether the claim about square parts is well made."""
    if not ground_fits(ground) or not polys_fit(ground, (poly,)) or len(poly) == 0 or not isinstance(rows, tuple):
        return False
    return all([is_row(row, 2) and polys_fit(ground, row[:1]) and is_int(row[1]) for row in rows])


def shows_square_parts(paper, ground, poly, rows):
    """Whether the powers make the poly, each part has nothing in common with its slope, and no two have."""
    if not is_row(paper, 2) or not is_row(paper[0], len(rows)) or not isinstance(paper[1], tuple):
        return False
    if not all([is_monic_part(ground, part) and exponent >= 1 for part, exponent in rows]):
        return False
    if not ascend([exponent for _, exponent in rows]) or not is_power_product(ground, poly, rows):
        return False
    parts = [opened(ground, part) for part, _ in rows]
    wanted = [(part, slope(ground, part)) for part in parts] + list(combinations(parts, 2))
    told = paper[0] + paper[1]
    if len(told) != len(wanted) or not all([are_polys(ground, pair, 2) for pair in told]):
        return False
    return all([
        is_mix(ground, all_opened(ground, pair), one, other, UNIT) for pair, (one, other) in zip(told, wanted)
    ])


def resultant_fits(ground, one, other, number):
    """Whether the claim about a resultant is well made."""
    if not ground_fits(ground) or not polys_fit(ground, (one, other)) or len(one) == 0 or len(other) == 0:
        return False
    return number_fits(ground, number, None)


def shows_resultant(paper, ground, one, other, number):
    """Whether the polys are the quotients on the way to the resultant, and it is the number."""
    if not isinstance(paper, tuple) or not polys_fit(ground, paper):
        return False
    inner, later = opened(ground, one), opened(ground, other)
    value = number_of(ground, 1)
    for often in paper:
        if degree_of(later) < 1:
            return False
        rest = difference_of(ground, inner, product_of(ground, opened(ground, often), later))
        if degree_of(rest) >= degree_of(later):
            return False
        if rest == NOTHING:
            value = number_of(ground, 0)
        else:
            head = power(ground, head_of(ground, later), degree_of(inner) - degree_of(rest))
            value = times(ground, value, head)
            if degree_of(inner) * degree_of(later) % 2 == 1:
                value = opposite(ground, value)
        inner, later = later, rest
    if degree_of(later) > 0:
        return False
    if later != NOTHING:
        value = times(ground, value, power(ground, head_of(ground, later), degree_of(inner)))
    return value == number


REST_KINDS = {
    "common": (4, common_fits, shows_common),
    "mixed": (4, mixed_fits, shows_mixed),
    "never mixed": (4, mixed_fits, shows_never_mixed),
    "joined": (2, joined_fits, shows_joined),
    "never joined": (2, joined_fits, shows_never_joined),
    "square parts": (3, square_parts_fit, shows_square_parts),
    "resultant": (4, resultant_fits, shows_resultant),
}
