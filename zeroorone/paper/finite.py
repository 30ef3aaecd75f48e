"""The claims and papers about finite forms: standing products, tables, least polys (stage 13)."""
from zeroorone.paper.bases import are_many_told, form_is_told, gens_fit, heads_of, is_basis_shown, is_sum
from zeroorone.paper.forms import Frame, letters_of, nothing, number_inner, product_of, sum_of, sum_of_products, unit
from zeroorone.paper.letter import is_monic
from zeroorone.paper.numbers import is_int, is_row, number_of
from zeroorone.paper.polys import poly_fits
from zeroorone.paper.tables import rank_fits, shows_rank, square_fits


def has_power(heads, index):
    """Whether some of the heads has no letter but the one with this index."""
    return any([sum(head) == head[index] for head in heads])


def is_multiple(key, heads):
    """Whether the key is a multiple of one of the heads."""
    return any([all([lower <= upper for lower, upper in zip(head, key)]) for head in heads])


def count_standing(heads, size):
    """How many keys are no multiples of the heads, of which each letter has a power."""
    if any([sum(head) == 0 for head in heads]):
        return 0
    if size == 0:
        return 1
    # From one first exponent of a head to the next one the same heads count.
    bounds = sorted({bound for bound in [0] + [head[0] for head in heads]})
    many = 0
    for at, low in enumerate(bounds[:-1]):
        lower = [head[1:] for head in heads if head[0] <= low]
        many += (bounds[at + 1] - low) * count_standing(lower, size - 1)
    return many


def finite_fits(ground, size, gens, many):
    """Whether the claim how many products stand is well made."""
    return gens_fit(ground, size, gens) and is_int(many)


def shows_finite(paper, ground, size, gens, many):
    """Whether each letter has a power among the heads of a basis, and so many products stand."""
    if not is_row(paper, 3) or not is_basis_shown(paper[2], ground, size, paper[0], gens, paper[1]):
        return False
    heads = heads_of(ground, size, paper[0], paper[1])
    return all([has_power(heads, index) for index in range(size)]) and count_standing(heads, size) == many


def endless_fits(ground, size, gens):
    """Whether the claim that endlessly many products stand is well made."""
    return gens_fit(ground, size, gens)


def shows_endless(paper, ground, size, gens):
    """Whether a letter has no power among the heads of a basis."""
    if not is_row(paper, 4) or not is_basis_shown(paper[2], ground, size, paper[0], gens, paper[1]):
        return False
    if not is_int(paper[3]) or not 0 <= paper[3] < size:
        return False
    return not has_power(heads_of(ground, size, paper[0], paper[1]), paper[3])


def products_fit(size, value):
    """Whether the value is a tuple of exponents, told by the size."""
    if not isinstance(value, tuple):
        return False
    return all([is_row(key, size) and all([is_int(part) and part >= 0 for part in key]) for key in value])


def tables_fit(ground, size, gens, products, tables):
    """Whether the claim about the tables of the letters is well made."""
    if not gens_fit(ground, size, gens) or not products_fit(size, products) or not is_row(tables, size):
        return False
    return all([square_fits(ground, table, len(products)) for table in tables])


def is_standing(products, heads, size):
    """Whether these are all keys that are no multiples of the heads, ascending by "deg"."""
    ranks = [(sum(key), key) for key in products]
    if not all([ranks[at] < ranks[at + 1] for at in range(len(ranks) - 1)]):
        return False
    if any([is_multiple(key, heads) for key in products]):
        return False
    return all([has_power(heads, index) for index in range(size)]) and count_standing(heads, size) == len(products)


def shows_tables(paper, ground, size, gens, products, tables):
    """Whether each letter times each standing product leaves what the letter's table tells, by a basis."""
    if not is_row(paper, 3) or not is_basis_shown(paper[1], ground, size, "deg", gens, paper[0]):
        return False
    rows, _, quotients = paper
    if not is_standing(products, heads_of(ground, size, "deg", rows), size) or not is_row(quotients, size):
        return False
    frame = Frame(ground, size, "deg")
    inners, zero = frame.all_opened(rows), number_of(ground, 0)
    for letter, table, told in zip(letters_of(frame), tables, quotients):
        if not is_row(told, len(products)):
            return False
        for key, row, multiples in zip(products, table, told):
            if not are_many_told(ground, size, multiples, len(rows)):
                return False
            left = frame.opened({lower: number for lower, number in zip(products, row) if number != zero})
            made = sum_of_products(frame, frame.all_opened(multiples), inners)
            if sum_of(frame, made, left) != ({frame.packed(key) + letter: 1}, 1):
                return False
    return True


def least_poly_fits(ground, size, gens, form, poly):
    """Whether the claim about a least poly is well made."""
    if not gens_fit(ground, size, gens) or not form_is_told(ground, size, form):
        return False
    return poly_fits(ground, poly, None, None) and is_monic(ground, poly)


def put_into(frame, poly, inner):
    """The inner form that a poly is with an inner form put in."""
    result = nothing()
    for number in reversed(poly):
        result = sum_of(frame, product_of(frame, result, inner), number_inner(frame, number))
    return result


def rests_shown(frame, paper, inner, many):
    """Whether the powers of an inner form from 0 on leave the told rests by the rows, with the told quotients."""
    _, order, rows, _, quotients, rests, _ = paper
    if not is_row(quotients, many) or not are_many_told(frame.ground, frame.size, rests, many):
        return False
    heads = heads_of(frame.ground, frame.size, order, rows)
    if any([is_multiple(key, heads) for rest in rests for key in rest]):
        return False
    inners = frame.all_opened(rows)
    power = unit()
    for multiples, rest in zip(quotients, rests):
        if not are_many_told(frame.ground, frame.size, multiples, len(rows)):
            return False
        made = sum_of_products(frame, frame.all_opened(multiples), inners)
        if sum_of(frame, made, frame.opened(rest)) != power:
            return False
        power = product_of(frame, power, inner)
    return True


def rank_of_rests(paper, ground, rests):
    """Whether the paper shows that no rest is a sum of multiples of the others."""
    keys = sorted({(sum(key), key) for rest in rests for key in rest})
    zero = number_of(ground, 0)
    table = tuple([tuple([rest.get(key, zero) for _, key in keys]) for rest in rests])
    return rank_fits(ground, table, len(rests)) and shows_rank(paper, ground, table, len(rests))


def shows_least_poly(paper, ground, size, gens, form, poly):
    """Whether the poly with the form put in is within the gens, and no poly of a lesser degree is."""
    if not is_row(paper, 7) or not is_basis_shown(paper[3], ground, size, paper[1], gens, paper[2]):
        return False
    if not are_many_told(ground, size, paper[0], len(gens)):
        return False
    frame = Frame(ground, size, "deg")
    inner = frame.opened(form)
    many = len(poly) - 1
    if not rests_shown(frame, paper, inner, many):
        return False
    if not is_sum(frame, paper[0], frame.all_opened(gens), put_into(frame, poly, inner)):
        return False
    return paper[6] is None if many == 0 else rank_of_rests(paper[6], ground, paper[5])


FINITE_KINDS = {
    "finite": (4, finite_fits, shows_finite),
    "endless": (3, endless_fits, shows_endless),
    "tables": (5, tables_fit, shows_tables),
    "least poly": (5, least_poly_fits, shows_least_poly),
}
