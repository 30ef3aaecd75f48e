"""Real roots of polys over the fractions: chains, how many roots a stretch has, signs at roots, orders (stage 9).

A chain is kept as a triple (common, row, steps) of inner polys, the steps being pairs (quotient, divisor); of a poly of
degree 0 it is None.
"""
from math import gcd

from zeroorone.base.plain import SIXTY_DIGITS
from zeroorone.errors import InvalidNumber, InvalidOperation, InvalidPoly, Refused
from zeroorone.letter.inner import common_part
from zeroorone.letter.rests import closed_all, inner_of
from zeroorone.paper.numbers import is_at_most, number_fits, quotient
from zeroorone.paper.polys import NOTHING, closed, degree_of, divided_by, over_poly, settled, slope
from zeroorone.paper.roots import changes_at, changes_between, earlier_of, is_stretch, later_of, sign_at

ONE = (1, 1)


def inner_other_than_0(poly):
    """The inner poly of a poly other than 0; what is none is refused."""
    inner = inner_of(0, poly)
    if inner == NOTHING:
        raise InvalidPoly("not for the poly 0")
    return inner


def check_end(end):
    """Refuse what is neither a fraction nor None."""
    if end is not None and not number_fits(0, end, SIXTY_DIGITS):
        raise InvalidNumber(end)


def check_stretch(low, high):
    """Refuse ends of which the first one is not below the second one."""
    if not is_stretch(low, high):
        raise InvalidOperation("the low end is not below the high one")


def turned_rest_of(rest):
    """(poly, divisor): a poly of integers, and a fraction above 0, with minus the rest as their product."""
    numbers, bottom = rest
    common = 0
    for number in numbers:
        common = gcd(common, number)
    return (settled(0, [-number // common for number in numbers], 1), quotient(0, common, bottom))


def chain_of(inner):
    """The chain for an inner poly other than 0."""
    if degree_of(inner) == 0:
        return None
    change = slope(0, inner)
    common = common_part(0, inner, change)
    row = [over_poly(0, inner, common), over_poly(0, change, common)]
    steps = []
    while degree_of(row[-1]) > 0:
        often, rest = divided_by(0, row[-2], row[-1])
        later, divisor = turned_rest_of(rest)
        row.append(later)
        steps.append((often, divisor))
    return (common, row, steps)


def chain_paper(chain):
    """The paper that a chain is for its poly."""
    if chain is None:
        return ()
    common, row, steps = chain
    told = tuple([(ONE, closed(0, often), divisor) for often, divisor in steps])
    return (closed(0, common), closed_all(0, row), told)


def roots_between(chain, low, high):
    """How many unlike roots the poly of a chain has in a stretch."""
    if chain is None:
        return 0
    return changes_between(chain[1], low, high)


def asked_chain(poly, low, high):
    """The chain for a poly that is asked about in a stretch; what is wrong is refused."""
    inner = inner_other_than_0(poly)
    check_end(low)
    check_end(high)
    check_stretch(low, high)
    return chain_of(inner)


def roots_answer(poly, low, high):
    """The claim how many unlike roots the poly has in a stretch, and a paper."""
    chain = asked_chain(poly, low, high)
    return (("roots", poly, low, high, roots_between(chain, low, high)), chain_paper(chain))


def check_alone(chain, low, high):
    """Refuse a poly that has not just one root in the stretch."""
    many = roots_between(chain, low, high)
    if many != 1:
        raise Refused(("roots", many))


def alone_answer(poly, low, high):
    """The claim that the poly has one root in a stretch, and a paper."""
    chain = asked_chain(poly, low, high)
    check_alone(chain, low, high)
    return (("alone", poly, low, high), chain_paper(chain))


def root_bound(inner):
    """The least one of 1, 2, 4, 8, .. that [9.4] tells for a poly of a degree of at least 1."""
    sizes = [abs(number) for number in inner[0]]
    bound = 1
    while bound * sizes[-1] < sizes[-1] + max(sizes[:-1]):
        bound = 2 * bound
    return bound


def with_ends(inner, low, high):
    """The stretch without what is beyond all roots, so with two fractions as ends."""
    bound = root_bound(inner)
    return (later_of(low, (-bound, 1)), earlier_of(high, (bound, 1)))


def middle(low, high):
    """The fraction halfway between two."""
    return quotient(0, low[0] * high[1] + high[0] * low[1], 2 * low[1] * high[1])


def half_with_root(chain, low, high):
    """The half of a stretch with fractions as ends in which its one root is."""
    half = middle(low, high)
    if roots_between(chain, low, half) == 1:
        return (low, half)
    return (half, high)


def common_paper(inner, further, low, high):
    """The last members of the paper that the root in the stretch is one of both polys; None if it is not."""
    common = common_part(0, inner, further)
    chain = chain_of(common)
    if roots_between(chain, low, high) != 1:
        return None
    shares = (common, over_poly(0, inner, common), over_poly(0, further, common))
    return closed_all(0, shares) + (chain_paper(chain),)


def sign_answer(one, other, low, high):
    """The claim about the sign of the second poly at the one root of the first one in a stretch, and a paper."""
    inner = inner_other_than_0(one)
    further = inner_of(0, other)
    check_end(low)
    check_end(high)
    check_stretch(low, high)
    chain = chain_of(inner)
    check_alone(chain, low, high)
    alone = chain_paper(chain)
    at_root = common_paper(inner, further, low, high)
    if at_root is not None:
        return (("sign", one, other, low, high, 0), (alone,) + at_root)
    clear = chain_of(further)
    start, stop = low, high
    if roots_between(clear, start, stop) > 0:
        start, stop = with_ends(inner, start, stop)
    while roots_between(clear, start, stop) > 0:
        start, stop = half_with_root(chain, start, stop)
    sign = sign_at(further, stop, 1)
    return (("sign", one, other, low, high, sign), (alone, start, stop, alone, chain_paper(clear)))


def apart(chain, stretch, later, further):
    """Two stretches with a root each, the roots unlike, halved until one is not above where the other one begins."""
    while not is_at_most(stretch[1], further[0]) and not is_at_most(further[1], stretch[0]):
        stretch = half_with_root(chain, stretch[0], stretch[1])
        further = half_with_root(later, further[0], further[1])
    return (stretch, further)


def order_paper(below, high, end, above, start):
    """The paper that one root is below another one, the end being between them."""
    first, second = chain_paper(below), chain_paper(above)
    at_high = high is not None and is_at_most(high, end)
    at_start = start is not None and is_at_most(end, start)
    return (first, second, end, () if at_high else first, () if at_start else second)


def root_order_answer(one, low, high, other, start, stop):
    """The claim how the one root of a poly in a stretch stands to that of another one in another one, and a paper."""
    inner = inner_other_than_0(one)
    check_end(low)
    check_end(high)
    further = inner_other_than_0(other)
    check_end(start)
    check_end(stop)
    check_stretch(low, high)
    check_stretch(start, stop)
    chain, later = chain_of(inner), chain_of(further)
    check_alone(chain, low, high)
    check_alone(later, start, stop)
    question = ("root order", one, low, high, other, start, stop)
    both_low, both_high = later_of(low, start), earlier_of(high, stop)
    if both_low is None or both_high is None or not is_at_most(both_high, both_low):
        same = common_paper(inner, further, both_low, both_high)
        if same is not None:
            return (question + (0,), (chain_paper(chain), chain_paper(later)) + same)
    here, there = apart(chain, with_ends(inner, low, high), later, with_ends(further, start, stop))
    if is_at_most(here[1], there[0]):
        return (question + (-1,), order_paper(chain, high, here[1], later, start))
    return (question + (1,), order_paper(later, stop, there[1], chain, low))


def root_stretches(poly):
    """Ascending stretches with fractions as ends, each with one root, and together with all."""
    inner = inner_other_than_0(poly)
    chain = chain_of(inner)
    if chain is None:
        return ()
    bound = root_bound(inner)
    low, high = (-bound, 1), (bound, 1)
    waiting = [(low, high, changes_at(chain[1], low, -1), changes_at(chain[1], high, 1))]
    found = []
    while waiting:
        low, high, more, less = waiting.pop()
        if more - less == 1:
            found.append((low, high))
        elif more - less > 1:
            half = middle(low, high)
            between = changes_at(chain[1], half, 1)
            waiting.append((half, high, between, less))
            waiting.append((low, half, more, between))
    return tuple(found)
