"""The search for points at which some forms are 0 and others are not, over the fractions, and for powers within."""
from zeroorone.letter.inner import common_part, common_with_sums
from zeroorone.many.bases import Basis, rows_by
from zeroorone.many.packed import dividers_of, rest_by
from zeroorone.paper.finite import has_power
from zeroorone.paper.forms import head_of, letter_key, product_of, unit
from zeroorone.paper.places import put_at
from zeroorone.paper.polys import UNIT, closed, divided_by, opened, over_poly
from zeroorone.paper.powers import great_power, product_of_all
from zeroorone.points.stairs import is_unit, thinned_of, told_by_mix

# So many integers are tried for each letter before it is asked whether there is a point at all.
FEW = 3
# So high powers are tried before that.
LOW = 4


def integer_at(index):
    """0, 1, -1, 2, -2, .. by their indices."""
    return (index + 1) // 2 if index % 2 == 1 else -(index // 2)


def is_dead(frame, rows, others):
    """Whether one of the others is within the rows of a reduced basis, as all are if 1 is."""
    dividers = dividers_of(frame, rows)
    return is_unit(rows) or any([len(rest_by(frame, frame.opened(other), dividers)[0]) == 0 for other in others])


def free_letter(frame, rows):
    """The index of the first letter without a power among the heads of rows; None if there is none."""
    heads = [frame.unpacked(head_of(row)) for row in rows]
    for index in range(frame.size):
        if not has_power(heads, index):
            return index
    return None


def letter_less(size, index, number):
    """The form that a letter less an integer is."""
    form = {letter_key(size, index, 1): (1, 1)}
    if number != 0:
        form[(0,) * size] = (-number, 1)
    return form


def place_among(frame, rows, others, many):
    """(m, values, undoings) of a point of finite rows at which the others are not 0; None if there is none.

    The values are those of the first so many letters: of these the others are made, and all are sums of products.
    """
    rows = thinned_of(frame, rows, many)
    if is_dead(frame, rows, others):
        return None
    _, poly, values = told_by_mix(frame, rows, many)
    modulus, inners = opened(0, poly), [opened(0, value) for value in values]
    wanted = [{key[:many]: other[key] for key in other} for other in others]
    for other in wanted:
        modulus = over_poly(0, modulus, common_part(0, modulus, put_at(0, other, modulus, inners)))
        if modulus == UNIT:
            return None
        inners = [divided_by(0, inner, modulus)[1] for inner in inners]
    undoings = [common_with_sums(0, put_at(0, other, modulus, inners), modulus)[1] for other in wanted]
    told = [divided_by(0, undoing, modulus)[1] for undoing in undoings]
    return (closed(0, modulus), tuple([closed(0, inner) for inner in inners]), tuple([closed(0, one) for one in told]))


def place_for(frame, rows, forms, others, many, most):
    """(m, values, undoings) of a point at which the forms are 0 and the others are not; the rows are their basis.

    Letters that are free get integers, the first `most` ones in turn; with None all, as long as it takes. None if no
    point is found so. The values are those of the first so many letters.
    """
    if is_dead(frame, rows, others):
        return None
    letter = free_letter(frame, rows)
    if letter is None:
        return place_among(frame, rows, others, many)
    index = 0
    while most is None or index < most:
        further = (letter_less(frame.size, letter, integer_at(index)),) + forms
        found = place_for(frame, rows_by(0, frame.size, "deg", further)[1], further, others, many, most)
        if found is not None:
            return found
        index += 1
    return None


def with_letter(forms):
    """The forms in one letter more, behind the others."""
    return tuple([{key + (0,): form[key] for key in form} for form in forms])


def undoing_forms(frame, rows, others):
    """The forms of a basis in one letter more, and this letter times the rest of the product of the others, less 1."""
    dividers = dividers_of(frame, rows)
    rest = rest_by(frame, unit(), dividers)
    for other in others:
        rest = rest_by(frame, product_of(frame, rest, frame.opened(other)), dividers)
    undone = {key + (1,): number for key, number in frame.closed(rest).items()}
    undone[(0,) * (frame.size + 1)] = (-1, 1)
    return (undone,) + with_letter(frame.all_closed(rows))


def least_power(frame, rows, others, start, most):
    """(many, rest): the least power of the product of the others that is within rows, `most` and None barring more.

    The start is such a pair of a lower power; a rest other than 0 tells that no power so far is within.
    """
    dividers = dividers_of(frame, rows)
    many, rest = start
    while rest[0] and (most is None or many < most):
        for other in others:
            rest = rest_by(frame, product_of(frame, rest, frame.opened(other)), dividers)
        many += 1
    return (many, rest)


def power_paper(size, zeros, others, many):
    """The paper that a power of the product of the others is within the zeros."""
    basis = Basis(0, size, zeros)
    frame = basis.frame
    power = unit()
    if many > 0:
        power = great_power(frame, product_of_all(frame, frame.all_opened(others)), many)
    return (many, basis.multiples(power))


def place_by_letter(frame, rows, others):
    """What place_for finds with a further letter that undoes the product of the others; None if there is no point."""
    forms, further = undoing_forms(frame, rows, others), with_letter(others)
    wider, found = rows_by(0, frame.size + 1, "deg", forms)
    if is_unit(found):
        return None
    # The further letter is a poly of the others wherever finitely many points are left.
    return place_for(wider, found, forms, further, frame.size, None)


def place_or_power(size, zeros, others):
    """(is_there, paper): whether there is a point at which the zeros are 0 and the others are not, and a paper."""
    if not all([len(other) > 0 for other in others]):
        return (False, (1, tuple([{} for _ in zeros])))
    frame, rows = rows_by(0, size, "deg", zeros)
    power = least_power(frame, rows, others, (0, rest_by(frame, unit(), dividers_of(frame, rows))), 1)
    if power[1][0]:
        place = place_for(frame, rows, zeros, others, size, FEW if rows else None)
        if place is None:
            power = least_power(frame, rows, others, power, LOW)
            if power[1][0] and free_letter(frame, rows) is not None:
                place = place_by_letter(frame, rows, others)
        if place is not None:
            return (True, place)
    return (False, power_paper(size, zeros, others, least_power(frame, rows, others, power, None)[0]))
