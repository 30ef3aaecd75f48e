"""Finite forms: standing products, tables, least polys, thinned forms, mixes that tell (stage 13)."""
from zeroorone.errors import Refused
from zeroorone.letter.inner import common_part
from zeroorone.many.bases import LEARNED_BY, Basis, rows_by, rows_modulo, vector_on
from zeroorone.many.packed import divided_by, dividers_of, is_finite, rest_by, standing_keys
from zeroorone.many.terms import check_form, check_forms, check_size
from zeroorone.paper.finite import has_power
from zeroorone.paper.forms import all_ordered, head_of, letters_of, nothing, ordered, product_of, raised, scaled, sum_of
from zeroorone.paper.forms import unit
from zeroorone.paper.numbers import quotient
from zeroorone.paper.polys import UNIT, closed, monic, over_poly, settled, slope
from zeroorone.search.building import built
from zeroorone.tables.rows import put_to, rank_paper


def check_question(ground, size, forms):
    """Refuse what is wrong among these parameters, in their sequence."""
    check_size(ground, size)
    check_forms(ground, size, forms)


def finite_keys(frame, rows):
    """The packed standing products of rows of a basis; endless ones are refused."""
    keys = [head_of(row) for row in rows]
    if not is_finite(frame, keys):
        raise Refused(("endless",))
    return standing_keys(frame, keys)


def finite_answer(ground, size, forms):
    """The claim how many products stand, or that endlessly many do, and a paper."""
    check_question(ground, size, forms)
    basis = Basis(ground, size, forms)
    frame = basis.frame
    question = (ground, size, all_ordered(forms))
    paper = ("deg", frame.all_closed(basis.rows), basis.paper(frame, basis.rows))
    keys = [head_of(row) for row in basis.rows]
    for index in range(size):
        if not has_power([frame.unpacked(key) for key in keys], index):
            return (("endless",) + question, paper + (index,))
    return (("finite",) + question + (len(standing_keys(frame, keys)),), paper)


def standing(ground, size, forms):
    """The exponents of the standing products, ascending by "deg"."""
    check_question(ground, size, forms)
    frame, rows = rows_by(ground, size, "deg", forms)
    return tuple([frame.unpacked(key) for key in finite_keys(frame, rows)])


def numbers_on(frame, keys, inner):
    """The numbers of an inner form at these keys."""
    return tuple([quotient(frame.ground, number, inner[1]) for number in vector_on(keys, inner)])


def table_rows(frame, rows, keys, inner):
    """The table of an inner form: the rests of its products with the standing products."""
    dividers = dividers_of(frame, rows)
    letters = letters_of(frame)
    rests = {}
    for key in keys:
        lower = [letter for letter in letters if frame.leads(letter, key)]
        made = raised(rests[key - lower[0]], lower[0]) if lower else inner
        rests[key] = rest_by(frame, made, dividers)
    return tuple([numbers_on(frame, keys, rests[key]) for key in keys])


def table_of(ground, size, forms, form):
    """The table of the form; () if nothing stands."""
    check_question(ground, size, forms)
    check_form(ground, size, form)
    frame, rows = rows_by(ground, size, "deg", forms)
    return table_rows(frame, rows, finite_keys(frame, rows), frame.opened(form))


def tables_answer(ground, size, forms):
    """The claim about the standing products and the tables of the letters, and a paper."""
    check_question(ground, size, forms)
    basis = Basis(ground, size, forms)
    frame, rows = basis.frame, basis.rows
    keys = finite_keys(frame, rows)
    tables, quotients = [], []
    for letter in letters_of(frame):
        divisions = [divided_by(frame, ({key + letter: 1}, 1), rows) for key in keys]
        tables.append(tuple([numbers_on(frame, keys, rest) for _, rest in divisions]))
        quotients.append(tuple([frame.all_closed(told) for told, _ in divisions]))
    products = tuple([frame.unpacked(key) for key in keys])
    claim = ("tables", ground, size, all_ordered(forms), products, tuple(tables))
    return (claim, (frame.all_closed(rows), basis.paper(frame, rows), tuple(quotients)))


def rest_powers(frame, rows, keys, inner):
    """(rests, sums, rungs): the rests of the powers of an inner form from 0 on, to the first one that the others tell.

    The sums are integers, one for each of these rests: so many times they add up to 0. The others are put to the rungs.
    """
    dividers = dividers_of(frame, rows)
    rests = [rest_by(frame, unit(), dividers)]
    rungs = []
    sums = put_to(frame.ground, rungs, vector_on(keys, rests[0]), rests[0][1], len(keys))
    while sums is None:
        rests.append(rest_by(frame, product_of(frame, inner, rests[-1]), dividers))
        sums = put_to(frame.ground, rungs, vector_on(keys, rests[-1]), rests[-1][1], len(keys))
    return (rests, sums, rungs)


def least_inner(frame, rows, keys, inner):
    """The least poly of an inner form, as an inner poly."""
    return monic(frame.ground, settled(frame.ground, rest_powers(frame, rows, keys, inner)[1], 1))


def power_divisions(frame, rows, inner, many):
    """Pairs (quotients, rest) by the rows, for the powers of an inner form from 0 to `many`."""
    quotients, rest = divided_by(frame, unit(), rows)
    found = [(quotients, rest)]
    for _ in range(many):
        further, left = divided_by(frame, product_of(frame, inner, rest), rows)
        quotients = [sum_of(frame, product_of(frame, inner, one), other) for one, other in zip(quotients, further)]
        rest = left
        found.append((quotients, rest))
    return found


def sum_by(frame, poly, lists):
    """The sums of the members of lists of inner forms, each list times a number of the inner poly."""
    total = [nothing() for _ in lists[0]]
    for number, inners in zip(poly[0], lists):
        total = [sum_of(frame, one, scaled(frame, inner, number, poly[1])) for one, inner in zip(total, inners)]
    return total


def rests_table(frame, rests):
    """The table of the numbers of rests at all keys that some rest has."""
    keys = sorted({key for rest in rests for key in rest[0]})
    return tuple([numbers_on(frame, keys, rest) for rest in rests])


def least_poly_answer(ground, size, forms, form):
    """The claim about the least poly of the form, and a paper."""
    check_question(ground, size, forms)
    check_form(ground, size, form)
    basis = Basis(ground, size, forms)
    frame, rows = basis.frame, basis.rows
    inner = frame.opened(form)
    poly = least_inner(frame, rows, finite_keys(frame, rows), inner)
    many = len(poly[0]) - 1
    divisions = power_divisions(frame, rows, inner, many)
    multiples = basis.down(sum_by(frame, poly, [quotients for quotients, _ in divisions]))
    rests = [rest for _, rest in divisions[:many]]
    quotients = tuple([frame.all_closed(told) for told, _ in divisions[:many]])
    paper = (frame.all_closed(multiples), "deg", frame.all_closed(rows), basis.paper(frame, rows), quotients)
    ranked = rank_paper(ground, rests_table(frame, rests)) if many > 0 else None
    claim = ("least poly", ground, size, all_ordered(forms), ordered(form), closed(ground, poly))
    return (claim, paper + (frame.all_closed(rests), ranked))


def sum_of_rests(frame, poly, rests):
    """The sum of rests, each times a number of an inner poly."""
    return sum_by(frame, poly, [[rest] for rest in rests])[0]


def is_thin(frame, rows, keys, many):
    """Whether a prime shows that there are as many points as standing products; the others tell nothing.

    It does if the least poly of a mix has this degree and no square part modulo the prime.
    """
    prime = LEARNED_BY[0]
    if any([row[1] % prime == 0 for row in rows]):
        return False
    lower, read = rows_modulo(frame, rows, prime)
    least = least_inner(lower, read, keys, mix_of(lower, len(keys), many))
    return len(least[0]) == len(keys) + 1 and common_part(prime, least, slope(prime, least)) == UNIT


def thinned_of(frame, rows, many):
    """The rows of the reduced basis of the thinned forms, of finite rows by "deg".

    The first so many letters are thinned, of which the others are to be sums of multiples.
    """
    keys = finite_keys(frame, rows)
    further = []
    if is_thin(frame, rows, keys, many):
        return rows
    for letter in letters_of(frame)[:many]:
        rests, sums, _ = rest_powers(frame, rows, keys, ({letter: 1}, 1))
        least = settled(0, sums, 1)
        common = common_part(0, least, slope(0, least))
        # Otherwise what would be put to them is within already.
        if common != UNIT:
            further.append(sum_of_rests(frame, over_poly(0, least, common), rests))
    if not further:
        return rows
    return [row[0] for row in built(frame, rows + further).reduced()]


def thinned(size, forms):
    """The reduced basis of the thinned forms."""
    check_question(0, size, forms)
    frame, rows = rows_by(0, size, "deg", forms)
    return frame.all_closed(thinned_of(frame, rows, size))


def mix_of(frame, number, many):
    """The mix of an integer: a + k b + k k c, for the first so many letters."""
    mix, factor = nothing(), 1
    for letter in letters_of(frame)[:many]:
        mix = sum_of(frame, mix, ({letter: factor}, 1) if factor != 0 else nothing())
        factor = factor * number
    return mix


def letter_values(frame, keys, rungs, rows, many):
    """For each of the first so many letters its poly in the mix, to whose powers' rests the rungs were put."""
    dividers = dividers_of(frame, rows)
    values = []
    for letter in letters_of(frame)[:many]:
        rest = rest_by(frame, ({letter: 1}, 1), dividers)
        sums = put_to(0, rungs, vector_on(keys, rest), rest[1], len(keys))
        values.append(closed(0, settled(0, sums[:-1], -sums[-1])))
    return tuple(values)


def told_by_mix(frame, rows, many):
    """(k, poly, values) of [13.6] for thinned rows by which something stands, by the first so many letters."""
    keys = finite_keys(frame, rows)
    number = 0
    _, sums, rungs = rest_powers(frame, rows, keys, mix_of(frame, number, many))
    while len(sums) - 1 < len(keys):
        number += 1
        _, sums, rungs = rest_powers(frame, rows, keys, mix_of(frame, number, many))
    poly = closed(0, monic(0, settled(0, sums, 1)))
    return (number, poly, letter_values(frame, keys, rungs, rows, many))


def is_unit(rows):
    """Whether 1 is within the rows of a reduced basis."""
    return rows == [unit()]


def telling_mix(size, forms):
    """(k, poly, values): the least integer whose mix tells, its least poly, and each letter as a poly of the mix."""
    check_question(0, size, forms)
    frame, rows = rows_by(0, size, "deg", forms)
    rows = thinned_of(frame, rows, size)
    if is_unit(rows):
        raise Refused(("nothing",))
    return told_by_mix(frame, rows, size)
