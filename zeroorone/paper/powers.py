"""Powers of products of forms, and the claims and papers that there is no point (stage 14)."""
from zeroorone.paper.bases import MOST_EXPONENT, are_many_told
from zeroorone.paper.forms import Frame, product_of, sum_of_products, unit
from zeroorone.paper.numbers import is_between, is_row
from zeroorone.paper.places import points_fit

MOST_PLACES = 10 ** 5


def spans(size, form):
    """For each letter the least and the greatest exponent of a form other than 0."""
    columns = [[key[index] for key in form] for index in range(size)]
    return [(min(column), max(column)) for column in columns]


def have_room(ground, size, many, others):
    """Whether the power of the product of forms is small enough for a paper."""
    places = 1
    for index in range(size):
        told = [spans(size, form)[index] for form in others if len(form) > 0]
        spread = sum([greatest - least for least, greatest in told])
        places = places * (1 + (spread if ground == 0 else many * spread))
    return many == 0 or places <= MOST_PLACES


def product_of_all(frame, inners):
    """The product of inner forms, 1 if there are none."""
    result = unit()
    for inner in inners:
        result = product_of(frame, result, inner)
    return result


def great_power(frame, inner, many):
    """The power of an inner form with an exponent from 0 on."""
    # Modulo a prime the power with the prime as exponent is the sum of the powers of the terms.
    base = many + 1 if frame.ground == 0 else frame.ground
    result = unit()
    while many > 0:
        for _ in range(many % base):
            result = product_of(frame, result, inner)
        many = many // base
        inner = ({key * base: number for key, number in inner[0].items()}, inner[1])
    return result


def has_exponents(size, form, others, many):
    """Whether the bounds of the exponents of a form are those of a power, from 1 on, of the product of others."""
    has_nothing = not all([len(other) > 0 for other in others])
    if len(form) == 0 or has_nothing:
        return len(form) == 0 and has_nothing
    wanted = [spans(size, other) for other in others]
    for index, (least, greatest) in enumerate(spans(size, form)):
        if least != many * sum([told[index][0] for told in wanted]):
            return False
        if greatest != many * sum([told[index][1] for told in wanted]):
            return False
    return True


def no_point_fits(ground, size, zeros, others):
    """Whether the claim that there is no point is well made."""
    return points_fit(ground, size, zeros, others)


def shows_no_point(paper, ground, size, zeros, others):
    """Whether a power of the product of the others is a sum of multiples of the zeros."""
    if not is_row(paper, 2) or not is_between(paper[0], 0, MOST_EXPONENT):
        return False
    many, multiples = paper
    if not are_many_told(ground, size, multiples, len(zeros)) or not have_room(ground, size, many, others):
        return False
    frame = Frame(ground, size, "lex")
    made = sum_of_products(frame, frame.all_opened(multiples), frame.all_opened(zeros))
    # Wrong exponents are found out ahead of the power, which may be great.
    if many > 0 and not has_exponents(size, frame.closed(made), others, many):
        return False
    return great_power(frame, product_of_all(frame, frame.all_opened(others)), many) == made


POWER_KINDS = {
    "no point": (4, no_point_fits, shows_no_point),
}
