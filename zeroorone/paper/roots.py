"""The claims and papers about real roots of polys over the fractions (stage 9).

An end of a stretch is a fraction, or None, which bars nothing.
"""
from zeroorone.paper.letter import all_opened, are_polys, is_product
from zeroorone.paper.numbers import is_at_most, is_between, is_row, number_fits, sign_of, sign_of_difference
from zeroorone.paper.polys import opened, poly_fits, product_of, slope, sum_of


def sign_at(inner, end, far):
    """The sign of an inner poly at a fraction; for None it is the sign far below (-1) or far above (1)."""
    numbers = inner[0]
    if end is None:
        turn = far if len(numbers) % 2 == 0 else 1
        return turn * sign_of(numbers[-1])
    value, bottom = 0, 1
    for number in reversed(numbers):
        value = value * end[0] + number * bottom
        bottom = bottom * end[1]
    return sign_of(value)


def changes_at(row, end, far):
    """The changes of a row of inner polys at an end."""
    many, before = 0, 0
    for inner in row:
        sign = sign_at(inner, end, far)
        if sign != 0:
            if sign * before == -1:
                many += 1
            before = sign
    return many


def changes_between(row, low, high):
    """The changes of a row of inner polys at the low end of a stretch, less those at the high one."""
    return changes_at(row, low, -1) - changes_at(row, high, 1)


def later_of(one, other):
    """The greater one of two low ends."""
    if one is None or other is None:
        return other if one is None else one
    return other if sign_of_difference(one, other) == -1 else one


def earlier_of(one, other):
    """The lesser one of two high ends."""
    if one is None or other is None:
        return other if one is None else one
    return one if sign_of_difference(one, other) == -1 else other


def end_fits(value):
    """Whether the value is an end."""
    return value is None or number_fits(0, value, None)


def is_stretch(low, high):
    """Whether two ends, if they are fractions, ascend."""
    return low is None or high is None or sign_of_difference(low, high) == -1


def stretch_fits(low, high):
    """Whether two values are the ends of a stretch."""
    return end_fits(low) and end_fits(high) and is_stretch(low, high)


def has_roots(value):
    """Whether the value is a poly over the fractions other than 0."""
    return poly_fits(0, value, None, None) and len(value) > 0


def roots_fit(poly, low, high, many):
    """Whether the claim how many roots there are is well made."""
    return has_roots(poly) and stretch_fits(low, high) and is_between(many, 0, None)


def alone_fits(poly, low, high):
    """Whether the claim that there is one root is well made."""
    return has_roots(poly) and stretch_fits(low, high)


def step_fits(step):
    """Whether the value is a triple of a fraction above 0, a poly, and a fraction above 0."""
    if not is_row(step, 3) or not number_fits(0, step[0], None) or not number_fits(0, step[2], None):
        return False
    return step[0][0] > 0 and step[2][0] > 0 and poly_fits(0, step[1], None, None)


def scaled(inner, number):
    """The inner poly times a fraction other than 0."""
    return product_of(0, inner, opened(0, (number,)))


def is_chain(value, poly):
    """Whether the value is a chain for a poly of a degree of at least 1."""
    if not is_row(value, 3) or not poly_fits(0, value[0], None, None):
        return False
    common, row, steps = value
    if not isinstance(row, tuple) or len(row) < 2 or not are_polys(0, row, len(row)):
        return False
    if not all([len(member) > 0 for member in row]) or len(row[-1]) != 1:
        return False
    if not is_row(steps, len(row) - 2) or not all([step_fits(step) for step in steps]):
        return False
    inner, divisor, inners = opened(0, poly), opened(0, common), all_opened(0, row)
    if not is_product(0, divisor, inners[0], inner) or not is_product(0, divisor, inners[1], slope(0, inner)):
        return False
    for at, (up, often, down) in enumerate(steps):
        made = sum_of(0, scaled(inners[at], up), scaled(inners[at + 2], down))
        if not is_product(0, opened(0, often), inners[at + 1], made):
            return False
    return True


def shows_roots(paper, poly, low, high, many):
    """Whether a chain shows that the poly has so many roots in the stretch."""
    if len(poly) == 1:
        return is_row(paper, 0) and many == 0
    return is_chain(paper, poly) and changes_between(all_opened(0, paper[1]), low, high) == many


def shows_alone(paper, poly, low, high):
    """Whether a chain shows that the poly has one root in the stretch."""
    return shows_roots(paper, poly, low, high, 1)


def sign_fits(poly, other, low, high, sign):
    """Whether the claim about a sign at a root is well made."""
    return alone_fits(poly, low, high) and poly_fits(0, other, None, None) and is_between(sign, -1, 1)


def shares_root(told, poly, other, low, high):
    """Whether (h, u, v, part) tells a divisor of two polys that has one root in the stretch."""
    if not are_polys(0, told[:3], 3) or len(told[0]) == 0 or not stretch_fits(low, high):
        return False
    common, share, further = all_opened(0, told[:3])
    if not is_product(0, common, share, opened(0, poly)) or not is_product(0, common, further, opened(0, other)):
        return False
    return shows_alone(told[3], told[0], low, high)


def is_inside(low, high, start, stop):
    """Whether the second stretch lies within the first one, equal ends let."""
    if low is not None and (start is None or not is_at_most(low, start)):
        return False
    return high is None or stop is not None and is_at_most(stop, high)


def shows_sign(paper, poly, other, low, high, sign):
    """Whether the paper shows the sign of the other poly at the one root of the first one in the stretch."""
    if not is_row(paper, 5) or not shows_alone(paper[0], poly, low, high):
        return False
    if sign == 0:
        return shares_root(paper[1:], poly, other, low, high)
    _, start, stop, here, clear = paper
    if len(other) == 0 or not stretch_fits(start, stop) or not is_inside(low, high, start, stop):
        return False
    if not shows_alone(here, poly, start, stop) or not shows_roots(clear, other, start, stop, 0):
        return False
    return sign_at(opened(0, other), stop, 1) == sign


def root_order_fits(poly, low, high, other, start, stop, order):
    """Whether the claim about the order of two roots is well made."""
    return alone_fits(poly, low, high) and alone_fits(other, start, stop) and is_between(order, -1, 1)


def is_up_to(paper, poly, low, high, end):
    """Whether the root of the poly in the stretch is at most the end; () tells it if the stretch goes no further."""
    if is_row(paper, 0) and high is not None and is_at_most(high, end):
        return True
    return is_stretch(low, end) and shows_alone(paper, poly, low, end)


def is_clear(paper, poly, start, end):
    """Whether the poly has no root above the start, up to the end; () tells it if the end is not above the start."""
    if start is not None and is_at_most(end, start):
        return is_row(paper, 0)
    return shows_roots(paper, poly, start, end, 0)


def shows_root_order(paper, poly, low, high, other, start, stop, order):
    """Whether the paper shows how the one root of a poly in a stretch stands to that of another one."""
    if order == 1:
        return shows_root_order(paper, other, start, stop, poly, low, high, -1)
    if not isinstance(paper, tuple) or len(paper) != (6 if order == 0 else 5):
        return False
    if not shows_alone(paper[0], poly, low, high) or not shows_alone(paper[1], other, start, stop):
        return False
    if order == 0:
        return shares_root(paper[2:], poly, other, later_of(low, start), earlier_of(high, stop))
    _, _, end, first, second = paper
    if not number_fits(0, end, None):
        return False
    return is_up_to(first, poly, low, high, end) and is_clear(second, other, start, end)


ROOT_KINDS = {
    "roots": (4, roots_fit, shows_roots),
    "alone": (3, alone_fits, shows_alone),
    "sign": (5, sign_fits, shows_sign),
    "root order": (7, root_order_fits, shows_root_order),
}
