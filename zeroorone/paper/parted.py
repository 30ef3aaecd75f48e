"""The claims and papers about parts of forms over the fractions (stage 16).

Frames are by "lex" here, so the head of an inner form in which the highest power of a stands alone is this power.
"""
from zeroorone.paper.bases import MOST_SIZE, are_many_told, form_is_told
from zeroorone.paper.forms import Frame, degree_of_form, difference_of, head_of, letter_key, letters_of, number_inner
from zeroorone.paper.forms import power_of, product_of, put_inside, scaled, sum_of, unit
from zeroorone.paper.letter import is_monic_part
from zeroorone.paper.numbers import are_integers, ascend, integer_power, is_between, is_row, is_zero, number_fits
from zeroorone.paper.parts import shows_unsplit

MOST_PLACES = 10 ** 5
MOST_PARTS = 12


def has_room(size, degree):
    """Whether forms of this degree are small enough to be parted."""
    return integer_power(degree + 1, size) <= MOST_PLACES


def parted_form_fits(size, form):
    """Whether the claim that a form is parted, or unsplit, is well made."""
    if not is_between(size, 1, MOST_SIZE) or not form_is_told(0, size, form):
        return False
    return degree_of_form(form) >= 1 and has_room(size, degree_of_form(form))


def shows_parted_form(paper, size, form):
    """Whether two forms of a degree of at least 1 have the form as their product."""
    if not are_many_told(0, size, paper, 2) or not all([degree_of_form(part) >= 1 for part in paper]):
        return False
    if degree_of_form(paper[0]) + degree_of_form(paper[1]) != degree_of_form(form):
        return False
    frame = Frame(0, size, "lex")
    return product_of(frame, frame.opened(paper[0]), frame.opened(paper[1])) == frame.opened(form)


def led_letters(frame, integers, factor):
    """The inner letters, all but the first one with an integer put to them, times an inner form."""
    letters = [({key: 1}, 1) for key in letters_of(frame)]
    further = [scaled(frame, factor, integer, 1) for integer in integers]
    return letters[:1] + [sum_of(frame, letter, more) for letter, more in zip(letters[1:], further)]


def shifted_inner(frame, form, shifts):
    """The inner form that a form is if each letter but the first one is replaced by itself plus so many times this."""
    return put_inside(frame, form, led_letters(frame, shifts, ({letters_of(frame)[0]: 1}, 1)))


def moved_inner(frame, inner, point):
    """The inner form that comes if each letter but the first one is replaced by itself plus an integer."""
    return put_inside(frame, frame.closed(inner), led_letters(frame, point, unit()))


def headed(frame, inner, degree):
    """The inner form, divided by its number of this power of the first letter; None if this is 0."""
    number = inner[0].get(letters_of(frame)[0] * degree, 0)
    return None if number == 0 else scaled(frame, inner, inner[1], number)


def ranks_of(frame, inner):
    """For each key of an inner form the sum of its exponents but the first one."""
    return {key: sum(frame.unpacked(key)[1:]) for key in inner[0]}


def below(frame, inner, many):
    """The inner form without its terms of the rank `many` or above."""
    ranks = ranks_of(frame, inner)
    numbers = {key: number for key, number in inner[0].items() if ranks[key] < many}
    return scaled(frame, (numbers, inner[1]), 1, 1)


def in_first_letter(frame, poly):
    """The inner form that a poly is in the first letter."""
    return frame.opened({
        letter_key(frame.size, 0, exponent): number for exponent, number in enumerate(poly) if not is_zero(0, number)
    })


def is_divided(frame, whole, divisor):
    """Whether an inner form in which the highest power of a stands alone, with the number 1, divides another one."""
    letter, head = letters_of(frame)[0], head_of(divisor)
    left = whole
    highest = max([frame.unpacked(key)[0] for key in whole[0]])
    for exponent in reversed(range(head // letter, highest + 1)):
        least = exponent * letter
        top = {key - head: number for key, number in left[0].items() if key >= least}
        if top:
            left = difference_of(frame, left, product_of(frame, scaled(frame, (top, left[1]), 1, 1), divisor))
    return len(left[0]) == 0


def lots_divide(frame, whole, lifts, made, most, degree):
    """Whether a product of lifted parts, and at most so many of further ones, cut below the degree, divides."""
    for at, lift in enumerate(lifts):
        further = below(frame, product_of(frame, made, lift), degree)
        if is_divided(frame, whole, further):
            return True
        if most > 1 and lots_divide(frame, whole, lifts[at + 1:], further, most - 1, degree):
            return True
    return False


def is_lift(frame, inner, poly, degree):
    """Whether an inner form is as a lifted part of the poly is to be, but for the product."""
    ranks = ranks_of(frame, inner)
    if not inner[0] or max([ranks[key] for key in ranks]) >= degree:
        return False
    if below(frame, inner, 1) != in_first_letter(frame, poly):
        return False
    # By "lex" a head without other letters is the only key with this power of a.
    return ranks[head_of(inner)] == 0


def lifts_fit(frame, whole, parts, lifted, degree):
    """Whether these are the lifted parts of a headed and moved inner form."""
    inners = frame.all_opened(lifted)
    if not all([is_lift(frame, inner, part, degree) for inner, part in zip(inners, parts)]):
        return False
    made = unit()
    for inner in inners:
        made = below(frame, product_of(frame, made, inner), degree)
    return made == below(frame, whole, degree)


def parts_make(frame, whole, parts):
    """Whether the value is a tuple of at most twelve unlike monic polys whose product is the image of a form."""
    if not isinstance(parts, tuple) or len(parts) > MOST_PARTS or not all([is_monic_part(0, part) for part in parts]):
        return False
    if len({part for part in parts}) != len(parts):
        return False
    made = unit()
    for part in parts:
        made = product_of(frame, made, in_first_letter(frame, part))
    return made == below(frame, whole, 1)


def shows_unsplit_form(paper, size, form):
    """Whether no lot of the lifted parts of the image divides the form, made headed and moved."""
    if not is_row(paper, 5) or not are_integers(paper[0], size - 1) or not are_integers(paper[1], size - 1):
        return False
    shifts, point, parts, papers, lifted = paper
    frame = Frame(0, size, "lex")
    degree = degree_of_form(form)
    whole = headed(frame, shifted_inner(frame, form, shifts), degree)
    if whole is None:
        return False
    whole = moved_inner(frame, whole, point)
    if not parts_make(frame, whole, parts) or not is_row(papers, len(parts)):
        return False
    if not all([shows_unsplit(shown, 0, part) for shown, part in zip(papers, parts)]):
        return False
    if not are_many_told(0, size, lifted, len(parts)) or not lifts_fit(frame, whole, parts, lifted, degree):
        return False
    most = len(parts) // 2
    return most < 1 or not lots_divide(frame, whole, frame.all_opened(lifted), unit(), most, degree)


def part_fits(size, pair):
    """Whether the value is a pair of a form of a degree of at least 1, monic by "deg", and of an exponent."""
    if not is_row(pair, 2) or not is_between(pair[1], 1, None) or not form_is_told(0, size, pair[0]):
        return False
    part = pair[0]
    if degree_of_form(part) < 1:
        return False
    return part[max([(sum(key), key) for key in part])[1]] == (1, 1)


def place_of(part):
    """What the parts of a form ascend by."""
    return (degree_of_form(part), tuple(sorted(part.items())))


def form_parts_fit(size, form, number, parts):
    """Whether the claim about the parts of a form is well made."""
    if not is_between(size, 1, MOST_SIZE) or not form_is_told(0, size, form) or len(form) == 0:
        return False
    if not has_room(size, degree_of_form(form)) or not number_fits(0, number, None) or is_zero(0, number):
        return False
    if not isinstance(parts, tuple) or not all([part_fits(size, pair) for pair in parts]):
        return False
    if not ascend([place_of(part) for part, _ in parts]):
        return False
    if sum([degree_of_form(part) * exponent for part, exponent in parts]) != degree_of_form(form):
        return False
    frame = Frame(0, size, "lex")
    made = number_inner(frame, number)
    for part, exponent in parts:
        made = product_of(frame, made, power_of(frame, frame.opened(part), exponent))
    return made == frame.opened(form)


def shows_form_parts(paper, size, form, number, parts):
    """Whether there is a paper for each part of the form that it is unsplit."""
    if not is_row(paper, len(parts)):
        return False
    return all([shows_unsplit_form(shown, size, part) for shown, (part, _) in zip(paper, parts)])


FORM_PART_KINDS = {
    "parted form": (2, parted_form_fits, shows_parted_form),
    "unsplit form": (2, parted_form_fits, shows_unsplit_form),
    "form parts": (4, form_parts_fit, shows_form_parts),
}
