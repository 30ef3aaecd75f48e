"""What forms are at a point, and the claims and papers that there is one (stage 14)."""
from zeroorone.paper.bases import are_told, gens_fit
from zeroorone.paper.letter import all_opened, are_polys, is_monic_part
from zeroorone.paper.numbers import is_row
from zeroorone.paper.polys import NOTHING, UNIT, opened, product_of, rest_by, rest_of_power, sum_of


def put_at(ground, form, modulus, values):
    """The inner poly that a form is, modulo another one, if inner polys are put in for the letters."""
    if not values:
        # A form without letters has one number, other than 0.
        return rest_by(ground, opened(ground, (form[()],)), modulus)
    rows = {}
    for key in form:
        rows.setdefault(key[0], {})[key[1:]] = form[key]
    exponents = sorted(rows, reverse=True)
    result = NOTHING
    for exponent, lower in zip(exponents, exponents[1:] + [0]):
        result = sum_of(ground, result, put_at(ground, rows[exponent], modulus, values[1:]))
        factor = rest_of_power(ground, values[0], exponent - lower, modulus)
        result = rest_by(ground, product_of(ground, result, factor), modulus)
    return result


def points_fit(ground, size, zeros, others):
    """Whether the claim that there is a point, or none, is well made."""
    return gens_fit(ground, size, zeros) and are_told(ground, size, others)


def are_lower(polys, modulus):
    """Whether all polys have a lesser degree than the modulus."""
    return all([len(poly) < len(modulus) for poly in polys])


def shows_point(paper, ground, size, zeros, others):
    """Whether the paper tells a point at which all zeros are 0 and all others are undone."""
    if not is_row(paper, 3) or not is_monic_part(ground, paper[0]):
        return False
    modulus, values, undoings = paper
    if not are_polys(ground, values, size) or not are_polys(ground, undoings, len(others)):
        return False
    if not are_lower(values + undoings, modulus):
        return False
    inner, places = opened(ground, modulus), all_opened(ground, values)
    if any([put_at(ground, form, inner, places) != NOTHING for form in zeros]):
        return False
    for form, undoing in zip(others, undoings):
        made = product_of(ground, put_at(ground, form, inner, places), opened(ground, undoing))
        if rest_by(ground, made, inner) != UNIT:
            return False
    return True


PLACE_KINDS = {
    "point": (4, points_fit, shows_point),
}
