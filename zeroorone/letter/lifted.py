"""Polys over the fractions: whole rows, lifts, parts, and papers that a poly is unsplit (stage 8)."""
from itertools import combinations

from zeroorone.base.plain import SIXTY_DIGITS, check_between
from zeroorone.errors import InvalidNumber, InvalidOperation, InvalidPoly
from zeroorone.letter.inner import common_part, common_with_sums
from zeroorone.letter.modparts import check_monic, check_other_than_0, part_rows, roots_of, unsplit_paper
from zeroorone.letter.rests import inner_of, square_rows
from zeroorone.paper.numbers import common_multiple, has_no_parts, integer_power, is_below, is_int, quotient
from zeroorone.paper.numbers import undone_modulo
from zeroorone.paper.parts import bound_of, lot_row, made_small, product_modulo, whole_quotient, whole_row_of
from zeroorone.paper.polys import UNIT, closed, degree_of, divided_by, monic, over_poly, poly_fits, product_of, settled
from zeroorone.paper.polys import slope
from zeroorone.paper.roots import sign_at

MOST_INTEGERS = 13
PRIMES_BELOW = 10000
MOST_LIFTS = 200


def whole_of(poly):
    """The pair of the fraction and the whole row of which the poly is the product."""
    inner = inner_of(0, poly)
    check_other_than_0(inner)
    row = whole_row_of(inner)
    return (quotient(0, inner[0][-1], inner[1] * row[-1]), row)


def check_row(whole):
    """Refuse what is no row of 2 to 13 integers of at most sixty digits, the last one not 0."""
    if not isinstance(whole, tuple) or len(whole) < 2 or len(whole) > MOST_INTEGERS:
        raise InvalidPoly("no row of 2 to 13 integers")
    if not all([is_below(number, SIXTY_DIGITS) for number in whole]) or whole[-1] == 0:
        raise InvalidPoly("no row of integers that fit")


def size_bound(whole):
    """The bound of a row of 2 to 13 integers."""
    check_row(whole)
    return bound_of(whole)


def fits(whole, prime):
    """Whether the prime does not divide the last integer, and the row modulo it has no square part."""
    if whole[-1] % prime == 0:
        return False
    inner = settled(prime, whole, 1)
    return common_part(prime, inner, slope(prime, inner)) == UNIT


def first_fitting(whole):
    """The least prime that fits a whole row without square parts."""
    prime = 2
    while not has_no_parts(prime) or not fits(whole, prime):
        prime += 1
    return prime


def has_each_part_once(inner):
    """Whether an inner poly of a degree of at least 1 has each part once."""
    return common_part(0, inner, slope(0, inner)) == UNIT


def fitting_prime(poly):
    """The least prime that fits the whole row of a poly."""
    inner = inner_of(0, poly)
    if degree_of(inner) < 1 or not has_each_part_once(inner):
        raise InvalidOperation("no poly of a degree of at least 1 with each part once")
    return first_fitting(whole_row_of(inner))


def unit_sums(prime, inners):
    """For each poly what times the product of the others leaves 1 by it."""
    found = []
    for index, inner in enumerate(inners):
        others = UNIT
        for at, further in enumerate(inners):
            if at != index:
                others = divided_by(prime, product_of(prime, others, further), inner)[1]
        found.append(common_with_sums(prime, others, inner)[1])
    return found


def lifts_of(whole, prime, inners, many):
    """The lifts to the power `many` of the prime of inner polys without anything in common."""
    lifts = [inner[0] for inner in inners]
    # These make up for the head number, too.
    sums = [settled(prime, one[0], whole[-1]) for one in unit_sums(prime, inners)]
    modulus = prime
    for _ in range(many - 1):
        made = product_modulo(modulus * prime, lifts)
        missing = [(number - whole[-1] * part) // modulus for number, part in zip(whole, made)]
        lack = settled(prime, missing, 1)
        lifts = [
            raised_by(row, divided_by(prime, product_of(prime, lack, one), inner)[1][0], modulus)
            for row, one, inner in zip(lifts, sums, inners)
        ]
        modulus = modulus * prime
    return tuple(lifts)


def raised_by(row, numbers, modulus):
    """The row with the numbers, times the modulus, put to its first integers."""
    return tuple([number + modulus * further for number, further in zip(row, numbers)]) + row[len(numbers):]


def can_be_lifted(whole, prime, inners):
    """Whether the product of the polys is the row modulo the prime, and no two of them have anything in common."""
    if sum([degree_of(inner) for inner in inners]) != len(whole) - 1:
        return False
    made = product_modulo(prime, [inner[0] for inner in inners])
    if any([(number - whole[-1] * part) % prime != 0 for number, part in zip(whole, made)]):
        return False
    return all([common_part(prime, one, other) == UNIT for one, other in combinations(inners, 2)])


def lifted(whole, prime, parts, many):
    """The lifts of the parts of a row modulo a prime, to the power `many` of the prime."""
    check_row(whole)
    if not is_int(prime) or prime >= PRIMES_BELOW or not has_no_parts(prime) or whole[-1] % prime == 0:
        raise InvalidNumber(prime)
    if not isinstance(parts, tuple) or len(parts) < 1:
        raise InvalidPoly("no tuple of parts")
    for part in parts:
        if not poly_fits(prime, part, None, SIXTY_DIGITS) or len(part) < 2 or part[-1] != 1:
            raise InvalidPoly("no monic poly modulo the prime, of a degree of at least 1")
    check_between(many, 1, MOST_LIFTS)
    inners = [(part, 1) for part in parts]
    if not can_be_lifted(whole, prime, inners):
        raise InvalidOperation("the row is no product of these parts, or they have something in common")
    return lifts_of(whole, prime, inners, many)


def lifting(whole):
    """(prime, many, lifts, inners): a prime that fits, enough lifts of its parts for the row, and the parts."""
    prime = first_fitting(whole)
    bound = 2 * bound_of(whole)
    many, modulus = 1, prime
    while modulus <= bound:
        many += 1
        modulus = modulus * prime
    inners = [inner for inner, _ in part_rows(prime, settled(prime, whole, 1))]
    return (prime, many, lifts_of(whole, prime, inners, many), inners)


def first_dividing(whole, left, modulus, lifts, many):
    """(indices, row, quotient) for the first lot of so many lifts that gives a row that divides what is left."""
    for indices in combinations(range(len(lifts)), many):
        row = lot_row(whole, modulus, product_modulo(modulus, [lifts[index] for index in indices]))
        further = whole_quotient(left, row)
        if further is not None:
            return (indices, row, further)
    return None


def unsplit_rows(whole, modulus, lifts):
    """The unsplit whole rows whose product is a whole row without square parts, and of a degree of at least 1."""
    rows = []
    left = whole
    many = 1
    while 2 * many <= len(lifts):
        found = first_dividing(whole, left, modulus, lifts, many)
        if found is None:
            many += 1
        else:
            indices, row, left = found
            rows.append(row)
            lifts = [lift for index, lift in enumerate(lifts) if index not in indices]
    return rows + [left]


def whole_paper(lifting_found):
    """The paper that a poly is unsplit, if the lifts of its row show it."""
    prime, many, lifts, inners = lifting_found
    return (prime, many, lifts, tuple([unsplit_paper(prime, inner) for inner in inners]))


def split_whole(whole):
    """Pairs of the unsplit whole rows of a row without square parts, and of papers that their monic polys are."""
    if len(whole) == 2:
        return [(whole, ())]
    found = lifting(whole)
    rows = unsplit_rows(whole, integer_power(found[0], found[1]), found[2])
    if len(rows) == 1:
        return [(whole, whole_paper(found))]
    return [(row, () if len(row) == 2 else whole_paper(lifting(row))) for row in rows]


def fraction_rows(inner):
    """Triples (part, often, paper) of the parts row of an inner poly other than 0, as it is to stand."""
    rows = []
    for part, often in square_rows(0, inner):
        for row, paper in split_whole(whole_row_of(part)):
            rows.append((closed(0, monic(0, (row, 1))), often, paper))
    return sorted(rows, key=lambda row: (len(row[0]), row[0]))


def fraction_parts(poly):
    """The parts row of a poly over the fractions."""
    return fraction_parts_answer(poly)[0][3]


def fraction_parts_answer(poly):
    """The claim about the parts row of a poly over the fractions, and a paper."""
    inner = inner_of(0, poly)
    check_other_than_0(inner)
    rows = fraction_rows(inner)
    claim = ("parts", 0, poly, tuple([(part, often) for part, often, _ in rows]))
    return (claim, tuple([paper for _, _, paper in rows]))


def fraction_unsplit_answer(poly):
    """The claim that a monic poly over the fractions is unsplit, or that it is parted, and a paper."""
    inner = inner_of(0, poly)
    check_monic(0, inner)
    part, _, paper = fraction_rows(inner)[0]
    if part == poly:
        return (("unsplit", 0, poly), paper)
    return (("parted", 0, poly), (part, closed(0, over_poly(0, inner, inner_of(0, part)))))


def lifted_root(whole, prime, root, modulus):
    """(root, modulus): a root of a whole row that fits, made one modulo a power of the prime that is above a bound."""
    inner, change = (whole, 1), slope(0, (whole, 1))
    power = prime
    while power <= modulus:
        power = power * power
        back = undone_modulo(value_modulo(change[0], root, power), power)
        root = (root - value_modulo(inner[0], root, power) * back) % power
    return (root, power)


def value_modulo(row, number, modulus):
    """The rest of the value of a row of integers at an integer."""
    value = 0
    for part in reversed(row):
        value = (value * number + part) % modulus
    return value


def roots_of_fractions(inner):
    """All fractions at which an inner poly other than 0 is 0, ascending by value."""
    once = over_poly(0, inner, common_part(0, inner, slope(0, inner)))
    whole = whole_row_of(once)
    if len(whole) == 1:
        return ()
    prime = first_fitting(whole)
    roots = []
    for start in roots_of(prime, settled(prime, whole, 1)):
        root, modulus = lifted_root(whole, prime, start, 2 * bound_of(whole))
        # A root, times the last integer, is a whole number of at most this size.
        found = quotient(0, made_small(whole[-1] * root, modulus), whole[-1])
        if sign_at(once, found, 0) == 0:
            roots.append(found)
    bottom = common_multiple([root[1] for root in roots])
    return tuple(sorted(roots, key=lambda root: root[0] * (bottom // root[1])))


def fraction_roots(poly):
    """All fractions at which the poly is 0, ascending by value."""
    inner = inner_of(0, poly)
    check_other_than_0(inner)
    return roots_of_fractions(inner)
