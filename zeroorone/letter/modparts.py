"""Polys modulo a prime: powers by a modulus, parts, and papers that a poly is unsplit (stage 7)."""
from zeroorone.base.plain import SIXTY_DIGITS, check_between, check_prime_ground
from zeroorone.errors import InvalidOperation
from zeroorone.letter.inner import common_part, common_with_sums
from zeroorone.letter.rests import closed_all, inner_of, square_rows
from zeroorone.paper.numbers import integer_power
from zeroorone.paper.polys import LETTER, NOTHING, UNIT, closed, degree_of, difference_of, lengthened, monic, over_poly
from zeroorone.paper.polys import product_of, rest_by, rest_of_power, settled, turns
from zeroorone.paper.tables import turned
from zeroorone.primes.primes import prime_powers
from zeroorone.tables.rows import kernel_rows, put_to

MOST_TURNS = 24
MOST_COUNTED = 60
MOST_FIRST = 6


def power_rest(ground, one, many, poly):
    """The rest of a power of the first poly by the second one."""
    check_prime_ground(ground)
    inner = inner_of(ground, one)
    check_between(many, 0, SIXTY_DIGITS - 1)
    modulus = inner_of(ground, poly)
    check_other_than_0(modulus)
    return closed(ground, rest_of_power(ground, inner, many, modulus))


def turned_rest(ground, poly, many):
    """The rest of t ** (p ** many) by the poly."""
    check_prime_ground(ground)
    modulus = inner_of(ground, poly)
    check_between(many, 0, MOST_TURNS)
    check_other_than_0(modulus)
    return closed(ground, turns(ground, modulus, many)[many])


def check_other_than_0(inner):
    """Refuse the poly 0."""
    if inner == NOTHING:
        raise InvalidOperation("not for the poly 0")


def check_monic(ground, inner):
    """Refuse an inner poly that is not monic or a number."""
    if degree_of(inner) < 1 or monic(ground, inner) != inner:
        raise InvalidOperation("no monic poly of a degree of at least 1")


def fixed_rests(prime, inner):
    """The basis of the rests by a monic inner poly that their p-th power leaves."""
    many = degree_of(inner)
    power = rest_of_power(prime, LETTER, prime, inner)
    image = rest_by(prime, UNIT, inner)
    rows = []
    for index in range(many):
        row = lengthened(image[0], many)
        row[index] = (row[index] - 1) % prime
        rows.append(row)
        image = rest_by(prime, product_of(prime, image, power), inner)
    # Each vector of this kernel is 1 at its last place, and 0 at the last places of the others.
    return [settled(prime, vector, 1) for vector in kernel_rows(prime, turned(rows))]


def same_powers(ground, poly):
    """The basis of the rests by a monic poly that their p-th power leaves."""
    check_prime_ground(ground)
    inner = inner_of(ground, poly)
    check_monic(ground, inner)
    return closed_all(ground, fixed_rests(ground, inner))


def roots_of(prime, inner):
    """All numbers at which an inner poly other than 0 is 0, ascending."""
    downward = list(reversed(inner[0]))
    roots = []
    for number in range(prime):
        value = 0
        for upper in downward:
            value = (value * number + upper) % prime
        if value == 0:
            roots.append(number)
    return roots


def least_poly_of(prime, member, modulus):
    """The monic inner poly of the least degree that is 0 modulo the modulus if the member is put in."""
    width = degree_of(modulus)
    rungs = []
    power = rest_by(prime, UNIT, modulus)
    sums = None
    while sums is None:
        sums = put_to(prime, rungs, lengthened(power[0], width), 1, width)
        power = rest_by(prime, product_of(prime, power, member), modulus)
    return monic(prime, settled(prime, sums, 1))


def split_by(prime, part, member):
    """The monic parts of higher degree than 0 that a part has in common with the member less each number."""
    values = roots_of(prime, least_poly_of(prime, rest_by(prime, member, part), part))
    if len(values) == 1:
        return [part]
    constants = [settled(prime, (value,), 1) for value in values]
    return [common_part(prime, part, difference_of(prime, member, constant)) for constant in constants]


def unlike_unsplit(prime, inner):
    """The unsplit parts of a monic inner poly of a degree of at least 1, whose parts are unlike."""
    members = fixed_rests(prime, inner)
    found = [inner]
    for member in members[1:]:
        if len(found) < len(members):
            found = [further for part in found for further in split_by(prime, part, member)]
    return found


def part_rows(prime, inner):
    """The parts row of an inner poly other than 0, in inner polys."""
    rows = []
    for part, often in square_rows(prime, inner):
        rows.extend([(unsplit, often) for unsplit in unlike_unsplit(prime, part)])
    return sorted(rows, key=lambda row: (len(row[0][0]), row[0][0]))


def slopes_less(prime, inner):
    """For each prime q that divides the degree n: the rest of t ** (p ** (n / q)), less t."""
    many = degree_of(inner)
    rests = turns(prime, inner, many)
    return [difference_of(prime, rests[many // part], LETTER) for part, _ in prime_powers(many)]


def unsplit_paper(prime, inner):
    """The paper that a monic inner poly is unsplit, if it is."""
    return tuple([
        closed_all(prime, common_with_sums(prime, inner, rest)[1:]) for rest in slopes_less(prime, inner)
    ])


def has_one_part(prime, inner):
    """Whether a monic inner poly of a degree of at least 1 is unsplit."""
    many = degree_of(inner)
    if turns(prime, inner, many)[many] != rest_by(prime, LETTER, inner):
        return False
    return all([common_part(prime, inner, rest) == UNIT for rest in slopes_less(prime, inner)])


def claimed_row(ground, rows):
    """The parts row of rows of inner polys."""
    return tuple([(closed(ground, part), often) for part, often in rows])


def parts(ground, poly):
    """The parts row of a poly."""
    return parts_answer(ground, poly)[0][3]


def parts_answer(ground, poly):
    """The claim about the parts row of a poly, and a paper."""
    check_prime_ground(ground)
    inner = inner_of(ground, poly)
    check_other_than_0(inner)
    rows = part_rows(ground, inner)
    paper = tuple([unsplit_paper(ground, part) for part, _ in rows])
    return (("parts", ground, poly, claimed_row(ground, rows)), paper)


def unsplit_answer(ground, poly):
    """The claim that a monic poly is unsplit, or that it is parted, and a paper."""
    check_prime_ground(ground)
    inner = inner_of(ground, poly)
    check_monic(ground, inner)
    part = part_rows(ground, inner)[0][0]
    if part == inner:
        return (("unsplit", ground, poly), unsplit_paper(ground, inner))
    return (("parted", ground, poly), closed_all(ground, (part, over_poly(ground, inner, part))))


def is_unsplit(ground, poly):
    """Whether the poly is of a degree of at least 1, and no product of two polys of lower degree."""
    check_prime_ground(ground)
    inner = inner_of(ground, poly)
    return degree_of(inner) >= 1 and has_one_part(ground, monic(ground, inner))


def roots_in(ground, poly):
    """The ascending tuple of all numbers at which the poly is 0."""
    check_prime_ground(ground)
    inner = inner_of(ground, poly)
    check_other_than_0(inner)
    return tuple(roots_of(ground, inner))


def count_unsplit(prime, many):
    """How many monic unsplit polys of a degree there are."""
    left = integer_power(prime, many)
    for lower in range(1, many):
        if many % lower == 0:
            left -= lower * count_unsplit(prime, lower)
    return left // many


def unsplit_number(ground, many):
    """How many monic unsplit polys of a degree from 1 to 60 there are."""
    check_prime_ground(ground)
    check_between(many, 1, MOST_COUNTED)
    return count_unsplit(ground, many)


def following(prime, numbers):
    """The next row of numbers, as tuples compare."""
    later = list(numbers)
    at = len(later) - 1
    while later[at] == prime - 1:
        later[at] = 0
        at -= 1
    later[at] += 1
    return later


def first_unsplit(ground, many):
    """The first monic unsplit poly of a degree from 1 to 6, as tuples compare."""
    check_prime_ground(ground)
    check_between(many, 1, MOST_FIRST)
    # Of a higher degree than 1 each poly that is 0 at 0 is parted.
    lower = [0] if many == 1 else [1] + [0] * (many - 1)
    while not has_one_part(ground, (tuple(lower) + (1,), 1)):
        lower = following(ground, lower)
    return tuple(lower) + (1,)
