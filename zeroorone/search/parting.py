"""The search for parts of forms over the fractions: a form is made headed and moved, and parts of its image are lifted.

Frames are by "lex" here, as in the papers.
"""
from itertools import combinations

from zeroorone.letter.inner import common_part, common_with_sums, rest_of_product
from zeroorone.letter.lifted import fraction_rows
from zeroorone.many.bases import vector_on
from zeroorone.many.packed import divided_by
from zeroorone.paper.forms import Frame, degree_of_form, difference_of, head_of, letters_of, monic, product_of, raised
from zeroorone.paper.forms import scaled, sum_of, unit
from zeroorone.paper.parted import below, headed, in_first_letter, is_divided, moved_inner, place_of, ranks_of
from zeroorone.paper.parted import shifted_inner
from zeroorone.paper.polys import UNIT, closed, opened, over_poly, settled, slope
from zeroorone.tables.rows import put_to


def rows_to(most, many):
    """All tuples of so many integers from 0 to `most`."""
    rows = [()]
    for _ in range(many):
        rows = [row + (number,) for row in rows for number in range(most + 1)]
    return rows


def degree_of_inner(frame, inner):
    """The degree of an inner form."""
    return max([sum(frame.unpacked(key)) for key in inner[0]])


def headed_by(frame, form):
    """(shifts, inner): the first shifts that lead to a headed inner form, and this form."""
    degree = degree_of_form(form)
    for shifts in rows_to(degree, frame.size - 1):
        found = headed(frame, shifted_inner(frame, form, shifts), degree)
        if found is not None:
            return (shifts, found)
    return None


def image_of(frame, inner):
    """The image of a headed inner form, as an inner poly."""
    letter = letters_of(frame)[0]
    highest = head_of(inner) // letter
    return settled(0, [inner[0].get(exponent * letter, 0) for exponent in range(highest + 1)], inner[1])


def moved_by(frame, inner):
    """(point, moved): the first point to which a headed inner form is moved so that its image has no square part.

    None if there is none among those that are enough.
    """
    degree = degree_of_inner(frame, inner)
    for point in rows_to(degree * (degree - 1), frame.size - 1):
        moved = moved_inner(frame, inner, point)
        image = image_of(frame, moved)
        if common_part(0, image, slope(0, image)) == UNIT:
            return (point, moved)
    return None


def slope_in_first(frame, inner):
    """The derivative of an inner form in the first letter."""
    letter = letters_of(frame)[0]
    numbers = {key - letter: number * frame.unpacked(key)[0] for key, number in inner[0].items()}
    return scaled(frame, ({key: number for key, number in numbers.items() if number != 0}, inner[1]), 1, 1)


def keys_to(frame, degree):
    """The packed keys of all terms of at most this degree, ascending."""
    return sorted([frame.packed(key) for key in rows_to(degree, frame.size) if sum(key) <= degree])


def each_part_once(frame, inner):
    """The headed inner form that has each part of a headed one with squares once.

    It is the one of the least degree that, times the slope, is a multiple of the form; so it is found by equations.
    """
    change = slope_in_first(frame, inner)
    degree = degree_of_inner(frame, inner)
    letter = letters_of(frame)[0]
    for lower in range(1, degree):
        columns = keys_to(frame, degree + lower - 1)
        head = lower * letter
        told = [key for key in keys_to(frame, lower) if key != head] + [head]
        made = [raised(inner, key) for key in keys_to(frame, lower - 1)] + [raised(change, key) for key in told]
        rungs, sums = [], None
        for further in made:
            sums = put_to(0, rungs, vector_on(columns, further), further[1], len(columns))
        if sums is not None:
            numbers = {key: number for key, number in zip(told, sums[-len(told):]) if number != 0}
            return scaled(frame, (numbers, 1), 1, sums[-1])
    return inner


def terms_of_rank(frame, inner, rank):
    """For each term in the other letters of this rank the inner poly that it is multiplied by."""
    letter = letters_of(frame)[0]
    ranks = ranks_of(frame, inner)
    rows = {}
    for key in sorted(inner[0]):
        if ranks[key] == rank:
            rows.setdefault(key % letter, {})[key // letter] = inner[0][key]
    return {
        rest: settled(0, [row.get(exponent, 0) for exponent in range(max(row) + 1)], inner[1])
        for rest, row in rows.items()
    }


def lifted_parts(frame, whole, parts):
    """The lifted parts of a headed and moved inner form, for the parts of its image, told as inner polys."""
    degree = degree_of_inner(frame, whole)
    image = image_of(frame, whole)
    sums = [common_with_sums(0, over_poly(0, image, part), part)[1] for part in parts]
    lifts = [in_first_letter(frame, closed(0, part)) for part in parts]
    for rank in range(1, degree):
        made = unit()
        for lift in lifts:
            made = below(frame, product_of(frame, made, lift), rank + 1)
        missing = terms_of_rank(frame, difference_of(frame, whole, made), rank)
        for at, part in enumerate(parts):
            for rest, lack in missing.items():
                more = rest_of_product(0, lack, sums[at], part)
                lifts[at] = sum_of(frame, lifts[at], raised(in_first_letter(frame, closed(0, more)), rest))
    return lifts


def first_lot(frame, left, lifts, many, degree):
    """(indices, factor) for the first lot of so many lifted parts whose product divides what is left; None if none."""
    for indices in combinations(range(len(lifts)), many):
        made = unit()
        for index in indices:
            made = below(frame, product_of(frame, made, lifts[index]), degree)
        if is_divided(frame, left, made):
            return (indices, made)
    return None


def unsplit_factors(frame, whole, lifts):
    """The headed unsplit inner forms whose product is a headed and moved one with these lifted parts."""
    degree = degree_of_inner(frame, whole)
    found, left, many = [], whole, 1
    while 2 * many <= len(lifts):
        lot = first_lot(frame, left, lifts, many, degree)
        if lot is None:
            many += 1
        else:
            found.append(lot[1])
            left = divided_by(frame, left, [lot[1]])[0][0]
            lifts = [lift for index, lift in enumerate(lifts) if index not in lot[0]]
    return found + [left]


def lifted_image(frame, whole):
    """(point, moved, rows, lifts) of a headed inner form: rows of parts of its image with papers, and their lifts.

    None if the form has squares.
    """
    place = moved_by(frame, whole)
    if place is None:
        return None
    point, moved = place
    rows = fraction_rows(image_of(frame, moved))
    return (point, moved, rows, lifted_parts(frame, moved, [opened(0, row[0]) for row in rows]))


def turned_back(integers):
    """The integers with their signs turned."""
    return tuple([-number for number in integers])


def unsplit_parts(size, form):
    """The unlike unsplit parts of a form of a degree of at least 1, with the head number 1 by "deg"."""
    frame = Frame(0, size, "lex")
    shifts, whole = headed_by(frame, form)
    lifting = lifted_image(frame, whole)
    if lifting is None:
        lifting = lifted_image(frame, each_part_once(frame, whole))
    point, moved, _, lifts = lifting
    parts = []
    for factor in unsplit_factors(frame, moved, lifts):
        back = moved_inner(frame, factor, turned_back(point))
        back = shifted_inner(frame, frame.closed(back), turned_back(shifts))
        wanted = Frame(0, size, "deg")
        parts.append(wanted.closed(monic(wanted, wanted.opened(frame.closed(back)))))
    return parts


def form_rows(size, form):
    """The pairs of a part of a form of a degree of at least 1, and of how often it divides it, in their sequence."""
    frame = Frame(0, size, "lex")
    left = frame.opened(form)
    rows = []
    for part in sorted(unsplit_parts(size, form), key=place_of):
        often = 0
        quotients, rest = divided_by(frame, left, [frame.opened(part)])
        while not rest[0]:
            left = quotients[0]
            often += 1
            quotients, rest = divided_by(frame, left, [frame.opened(part)])
        rows.append((part, often))
    return tuple(rows)


def unsplit_form_paper(size, form):
    """The paper that an unsplit form is unsplit."""
    frame = Frame(0, size, "lex")
    shifts, whole = headed_by(frame, form)
    point, _, rows, lifts = lifted_image(frame, whole)
    parts, papers = tuple([row[0] for row in rows]), tuple([row[2] for row in rows])
    return (shifts, point, parts, papers, frame.all_closed(lifts))
