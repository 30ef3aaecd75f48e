"""Finite forms: standing products, tables, least polys, thinned forms, mixes that tell (stage 13)."""
from zeroorone.base.plain import quotient
from zeroorone.errors import Refused
from zeroorone.letter.inner import closed, common_part, monic, over_poly, settled, slope
from zeroorone.many.bases import Basis, rows_by, vector_on
from zeroorone.many.packed import all_ordered, dividers_of, divided_by, has_power, head_of, is_finite, letter_key
from zeroorone.many.packed import letters_of, nothing, ordered, product_of, raised, rest_by, scaled, standing_keys
from zeroorone.many.packed import sum_of, unit
from zeroorone.many.terms import check_form, check_forms, check_size
from zeroorone.tables.rows import put_to, rank_paper


def check_question(ground, size, forms):
    """Refuse what is wrong among these parameters, in their sequence."""
    check_size(ground, size)
    check_forms(ground, size, forms)


def finite_keys(frame, rows):
    """The packed standing products of rows of a basis; endless ones are refused."""
    keys = [head_of(row) for row in rows]
    if not is_finite(frame, keys):
        raise Refused(("endless",))
    return standing_keys(frame, keys)


def finite_answer(ground, size, forms):
    """The claim how many products stand, or that endlessly many do, and a paper."""
    check_question(ground, size, forms)
    basis = Basis(ground, size, forms)
    frame = basis.frame
    question = (ground, size, all_ordered(forms))
    paper = ("deg", frame.all_closed(basis.rows), basis.paper(frame, basis.rows))
    keys = [head_of(row) for row in basis.rows]
    for index in range(size):
        if not has_power(frame, keys, index):
            return (("endless",) + question, paper + (index,))
    return (("finite",) + question + (len(standing_keys(frame, keys)),), paper)


def standing(ground, size, forms):
    """The exponents of the standing products, ascending by "deg"."""
    check_question(ground, size, forms)
    frame, rows = rows_by(ground, size, "deg", forms)
    return tuple([frame.unpacked(key) for key in finite_keys(frame, rows)])


def numbers_on(frame, keys, inner):
    """The numbers of an inner form at these keys."""
    return tuple([quotient(frame.ground, number, inner[1]) for number in vector_on(keys, inner)])


def table_rows(frame, rows, keys, inner):
    """The table of an inner form: the rests of its products with the standing products."""
    dividers = dividers_of(frame, rows)
    letters = letters_of(frame)
    rests = {}
    for key in keys:
        lower = [letter for letter in letters if frame.leads(letter, key)]
        made = raised(rests[key - lower[0]], lower[0]) if lower else inner
        rests[key] = rest_by(frame, made, dividers)
    return tuple([numbers_on(frame, keys, rests[key]) for key in keys])


def table_of(ground, size, forms, form):
    """The table of the form; () if nothing stands."""
    check_question(ground, size, forms)
    check_form(ground, size, form)
    frame, rows = rows_by(ground, size, "deg", forms)
    return table_rows(frame, rows, finite_keys(frame, rows), frame.opened(form))


def tables_answer(ground, size, forms):
    """The claim about the standing products and the tables of the letters, and a paper."""
    check_question(ground, size, forms)
    basis = Basis(ground, size, forms)
    frame, rows = basis.frame, basis.rows
    keys = finite_keys(frame, rows)
    tables, quotients = [], []
    for letter in letters_of(frame):
        divisions = [divided_by(frame, ({key + letter: 1}, 1), rows) for key in keys]
        tables.append(tuple([numbers_on(frame, keys, rest) for _, rest in divisions]))
        quotients.append(tuple([frame.all_closed(told) for told, _ in divisions]))
    products = tuple([frame.unpacked(key) for key in keys])
    claim = ("tables", ground, size, all_ordered(forms), products, tuple(tables))
    return (claim, (frame.all_closed(rows), basis.paper(frame, rows), tuple(quotients)))


def rest_powers(frame, rows, keys, inner):
    """(rests, sums): the rests of the powers of an inner form from 0 on, to the first one that the others tell.

    The sums are integers, one for each of these rests: so many times they add up to 0.
    """
    dividers = dividers_of(frame, rows)
    rests = [rest_by(frame, unit(), dividers)]
    rungs = []
    sums = put_to(frame.ground, rungs, vector_on(keys, rests[0]), rests[0][1], len(keys))
    while sums is None:
        rests.append(rest_by(frame, product_of(frame, inner, rests[-1]), dividers))
        sums = put_to(frame.ground, rungs, vector_on(keys, rests[-1]), rests[-1][1], len(keys))
    return (rests, sums)


def least_inner(frame, rows, keys, inner):
    """The least poly of an inner form, as an inner poly."""
    return monic(frame.ground, settled(frame.ground, rest_powers(frame, rows, keys, inner)[1], 1))


def power_divisions(frame, rows, inner, many):
    """Pairs (quotients, rest) by the rows, for the powers of an inner form from 0 to `many`."""
    quotients, rest = divided_by(frame, unit(), rows)
    found = [(quotients, rest)]
    for _ in range(many):
        further, left = divided_by(frame, product_of(frame, inner, rest), rows)
        quotients = [sum_of(frame, product_of(frame, inner, one), other) for one, other in zip(quotients, further)]
        rest = left
        found.append((quotients, rest))
    return found


def sum_by(frame, poly, lists):
    """The sums of the members of lists of inner forms, each list times a number of the inner poly."""
    total = [nothing() for _ in lists[0]]
    for number, inners in zip(poly[0], lists):
        total = [sum_of(frame, one, scaled(frame, inner, number, poly[1])) for one, inner in zip(total, inners)]
    return total


def rests_table(frame, rests):
    """The table of the numbers of rests at all keys that some rest has."""
    keys = sorted({key for rest in rests for key in rest[0]})
    return tuple([numbers_on(frame, keys, rest) for rest in rests])


def least_poly_answer(ground, size, forms, form):
    """The claim about the least poly of the form, and a paper."""
    check_question(ground, size, forms)
    check_form(ground, size, form)
    basis = Basis(ground, size, forms)
    frame, rows = basis.frame, basis.rows
    inner = frame.opened(form)
    poly = least_inner(frame, rows, finite_keys(frame, rows), inner)
    many = len(poly[0]) - 1
    divisions = power_divisions(frame, rows, inner, many)
    multiples = basis.down(sum_by(frame, poly, [quotients for quotients, _ in divisions]))
    rests = [rest for _, rest in divisions[:many]]
    quotients = tuple([frame.all_closed(told) for told, _ in divisions[:many]])
    paper = (frame.all_closed(multiples), "deg", frame.all_closed(rows), basis.paper(frame, rows), quotients)
    ranked = rank_paper(ground, rests_table(frame, rests)) if many > 0 else None
    claim = ("least poly", ground, size, all_ordered(forms), ordered(form), closed(ground, poly))
    return (claim, paper + (frame.all_closed(rests), ranked))


def thinned_rows(size, forms):
    """The frame, and the rows of the reduced basis of the thinned forms."""
    frame, rows = rows_by(0, size, "deg", forms)
    keys = finite_keys(frame, rows)
    further = []
    for index, letter in enumerate(letters_of(frame)):
        least = least_inner(frame, rows, keys, ({letter: 1}, 1))
        once = closed(0, over_poly(0, least, common_part(0, least, slope(0, least))))
        further.append({
            letter_key(size, index, exponent): number for exponent, number in enumerate(once) if number[0] != 0
        })
    return rows_by(0, size, "deg", frame.all_closed(rows) + tuple(further))


def thinned(size, forms):
    """The reduced basis of the thinned forms."""
    check_question(0, size, forms)
    frame, rows = thinned_rows(size, forms)
    return frame.all_closed(rows)


def mix_of(frame, number):
    """The mix of an integer: a + k b + k k c, for as many letters as there are."""
    mix, factor = nothing(), 1
    for letter in letters_of(frame):
        mix = sum_of(frame, mix, ({letter: factor}, 1) if factor != 0 else nothing())
        factor = factor * number
    return mix


def letter_values(frame, keys, rests, rows):
    """For each letter its poly in the mix, the rests of the powers of the mix being told."""
    rungs = []
    width = len(keys)
    for rest in rests:
        put_to(0, rungs, vector_on(keys, rest), rest[1], width)
    dividers = dividers_of(frame, rows)
    values = []
    for letter in letters_of(frame):
        rest = rest_by(frame, ({letter: 1}, 1), dividers)
        sums = put_to(0, rungs, vector_on(keys, rest), rest[1], width)
        values.append(closed(0, settled(0, sums[:-1], -sums[-1])))
    return tuple(values)


def telling_mix(size, forms):
    """(k, poly, values): the least integer whose mix tells, its least poly, and each letter as a poly of the mix."""
    check_question(0, size, forms)
    frame, rows = thinned_rows(size, forms)
    keys = finite_keys(frame, rows)
    if not keys:
        raise Refused(("nothing",))
    number = 0
    rests, sums = rest_powers(frame, rows, keys, mix_of(frame, number))
    while len(sums) - 1 < len(keys):
        number += 1
        rests, sums = rest_powers(frame, rows, keys, mix_of(frame, number))
    poly = closed(0, monic(0, settled(0, sums, 1)))
    return (number, poly, letter_values(frame, keys, rests[:-1], rows))
