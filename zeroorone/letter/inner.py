"""What inner polys have in common, without checks."""
from zeroorone.paper.polys import NOTHING, UNIT, closed, difference_of, divided_by, monic, opened, over_poly, product_of
from zeroorone.paper.polys import settled


def by_head(ground, inner, poly):
    """The first inner poly divided by the head number of the second one."""
    return settled(ground, [number * poly[1] for number in inner[0]], inner[1] * poly[0][-1])


def common_with_sums(ground, one, other):
    """(h, u, v): the monic poly that the first and the second one have in common, u one + v other being it.

    All of them are 0 for 0 and 0.
    """
    rest, after = one, other
    u, later = UNIT, NOTHING
    while after != NOTHING:
        often, left = divided_by(ground, rest, after)
        following = difference_of(ground, u, product_of(ground, often, later))
        if left != NOTHING:
            # Rests are kept monic, as their numbers would grow far longer otherwise.
            following, left = by_head(ground, following, left), monic(ground, left)
        rest, after, u, later = after, left, later, following
    if rest == NOTHING:
        return (NOTHING, NOTHING, NOTHING)
    u, rest = by_head(ground, u, rest), monic(ground, rest)
    if other == NOTHING:
        return (rest, u, NOTHING)
    left = difference_of(ground, rest, product_of(ground, u, one))
    return (rest, u, over_poly(ground, left, other))


def common_part(ground, one, other):
    """The monic poly that two inner polys have in common."""
    rest, after = one, other
    while after != NOTHING:
        rest, after = after, monic(ground, divided_by(ground, rest, after)[1])
    return monic(ground, rest)


def rest_of_product(ground, one, other, modulus):
    """The rest of the product of two inner polys by a third one."""
    return divided_by(ground, product_of(ground, one, other), modulus)[1]


def product_poly(ground, one, other):
    """The product of two polys."""
    return closed(ground, product_of(ground, opened(ground, one), opened(ground, other)))
