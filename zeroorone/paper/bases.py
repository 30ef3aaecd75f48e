"""The claims and papers about reduced bases, and about what is within forms (stages 11 and 12).

In the functions that judge papers gens and others are the forms of the claim.
"""
from itertools import combinations

from zeroorone.paper.forms import ORDERS, Frame, common_key, crossed_of, form_fits, head_of, sum_of, sum_of_products
from zeroorone.paper.numbers import ground_fits, is_between, is_int, is_one, is_row, opposite

MOST_EXPONENT = 10 ** 4
MOST_SIZE = 4


def form_is_told(ground, size, value):
    """Whether the value is a form, of any length, as claims and papers let them."""
    return form_fits(ground, size, value, None, None) and all([max(key) <= MOST_EXPONENT for key in value])


def are_told(ground, size, value):
    """Whether the value is a tuple of forms."""
    return isinstance(value, tuple) and all([form_is_told(ground, size, form) for form in value])


def are_many_told(ground, size, value, many):
    """Whether the value is a tuple of so many forms."""
    return is_row(value, many) and are_told(ground, size, value)


def question_fits(ground, size, most):
    """Whether these are a ground, and a size of at most so much."""
    return ground_fits(ground) and is_between(size, 1, most)


def gens_fit(ground, size, gens):
    """Whether these are a ground, a size, and forms for them."""
    return question_fits(ground, size, MOST_SIZE) and are_told(ground, size, gens)


def is_sum(frame, multiples, inners, whole):
    """Whether inner forms, times these multiples, add up to another one."""
    return sum_of_products(frame, frame.all_opened(multiples), inners) == whole


def make_all(frame, told, inners, wanted):
    """Whether the value has for each wanted inner form a tuple of multiples of the others for it."""
    if not is_row(told, len(wanted)):
        return False
    for multiples, whole in zip(told, wanted):
        if not are_many_told(frame.ground, frame.size, multiples, len(inners)):
            return False
        if not is_sum(frame, multiples, inners, whole):
            return False
    return True


def is_reduced_row(ground, size, order, rows):
    """Whether the value is a tuple of monic forms by ascending heads, no key a multiple of the head of another one."""
    if not are_told(ground, size, rows) or not all([len(row) > 0 for row in rows]):
        return False
    frame = Frame(ground, size, order)
    inners = frame.all_opened(rows)
    heads = [head_of(inner) for inner in inners]
    if not all([is_one(ground, row[frame.unpacked(head)]) for row, head in zip(rows, heads)]):
        return False
    if not all([heads[at] < heads[at + 1] for at in range(len(heads) - 1)]):
        return False
    return not any([
        at != place and frame.leads(head, key)
        for at, inner in enumerate(inners) for key in inner[0] for place, head in enumerate(heads)
    ])


def basis_fits(ground, size, order, gens, rows):
    """Whether the claim about a reduced basis is well made."""
    if not gens_fit(ground, size, gens) or not isinstance(order, str) or order not in ORDERS:
        return False
    return is_reduced_row(ground, size, order, rows)


def has_lower_pairs(frame, told, inners):
    """Whether for each two rows there are multiples for their crossed pair, whose summands have lower heads."""
    pairs = list(combinations(inners, 2))
    if not is_row(told, len(pairs)):
        return False
    for multiples, (one, other) in zip(told, pairs):
        if not are_many_told(frame.ground, frame.size, multiples, len(inners)):
            return False
        bound = common_key(frame, head_of(one), head_of(other))
        for multiple, inner in zip(frame.all_opened(multiples), inners):
            if multiple[0] and head_of(multiple) + head_of(inner) >= bound:
                return False
        if not is_sum(frame, multiples, inners, crossed_of(frame, one, other)):
            return False
    return True


def shows_basis(paper, ground, size, order, gens, rows):
    """Whether gens and rows make one another, and all crossed pairs of the rows come from below."""
    if not is_row(paper, 3):
        return False
    frame = Frame(ground, size, order)
    inners, opened_gens = frame.all_opened(rows), frame.all_opened(gens)
    if not make_all(frame, paper[0], opened_gens, inners) or not make_all(frame, paper[1], inners, opened_gens):
        return False
    return has_lower_pairs(frame, paper[2], inners)


def is_basis_shown(paper, ground, size, order, gens, rows):
    """Whether the claim about a reduced basis is well made, and the paper is one for it."""
    return basis_fits(ground, size, order, gens, rows) and shows_basis(paper, ground, size, order, gens, rows)


def within_fits(ground, size, form, gens):
    """Whether the claim that a form is within, or outside, is well made."""
    return gens_fit(ground, size, gens) and form_is_told(ground, size, form)


def shows_within(paper, ground, size, form, gens):
    """Whether multiples of the gens make the form."""
    if not are_many_told(ground, size, paper, len(gens)):
        return False
    frame = Frame(ground, size, "lex")
    return is_sum(frame, paper, frame.all_opened(gens), frame.opened(form))


def shows_outside(paper, ground, size, form, gens):
    """Whether a basis leaves a rest of the form whose head is a multiple of no head."""
    if not is_row(paper, 5) or not is_basis_shown(paper[2], ground, size, paper[0], gens, paper[1]):
        return False
    order, rows, _, quotients, rest = paper
    if not are_many_told(ground, size, quotients, len(rows)) or not form_is_told(ground, size, rest) or len(rest) == 0:
        return False
    frame = Frame(ground, size, order)
    inners, left = frame.all_opened(rows), frame.opened(rest)
    if any([frame.leads(head_of(inner), head_of(left)) for inner in inners]):
        return False
    made = sum_of_products(frame, frame.all_opened(quotients), inners)
    return sum_of(frame, made, left) == frame.opened(form)


def lots_fit(ground, size, gens, others):
    """Whether the claim that two lots are the same, or unlike, is well made."""
    return gens_fit(ground, size, gens) and are_told(ground, size, others)


def shows_same_lot(paper, ground, size, gens, others):
    """Whether gens and others make one another."""
    if not is_row(paper, 2):
        return False
    frame = Frame(ground, size, "lex")
    inners, later = frame.all_opened(gens), frame.all_opened(others)
    return make_all(frame, paper[0], later, inners) and make_all(frame, paper[1], inners, later)


def shows_unlike_lots(paper, ground, size, gens, others):
    """Whether one of the forms of a side is outside the others."""
    if not is_row(paper, 3) or not is_between(paper[0], 0, 1) or not is_int(paper[1]):
        return False
    side, place, shown = paper
    here, there = (gens, others) if side == 0 else (others, gens)
    return 0 <= place < len(here) and shows_outside(shown, ground, size, here[place], there)


def without_letters(forms, many):
    """The forms in no key of which one of the first so many letters stands."""
    return tuple([form for form in forms if all([sum(key[:many]) == 0 for key in form])])


def taken_out_fits(ground, size, gens, many, found):
    """Whether the claim about letters taken out is well made."""
    return gens_fit(ground, size, gens) and is_between(many, 0, size) and is_reduced_row(ground, size, "lex", found)


def shows_taken_out(paper, ground, size, gens, many, found):
    """Whether those rows of a basis that do not have the letters are found."""
    if not is_row(paper, 2) or not is_basis_shown(paper[1], ground, size, "lex", gens, paper[0]):
        return False
    return without_letters(paper[0], many) == found


def meet_fits(ground, size, gens, others, found):
    """Whether the claim about a meet is well made."""
    if not question_fits(ground, size, MOST_SIZE - 1) or not lots_fit(ground, size, gens, others):
        return False
    return is_reduced_row(ground, size, "lex", found)


def mixed_forms(ground, forms, others):
    """The first forms times a further letter ahead of all, and the others times 1 less this letter."""
    made = [{(1,) + key: form[key] for key in form} for form in forms]
    for other in others:
        mixed = {(0,) + key: number for key, number in other.items()}
        mixed.update({(1,) + key: opposite(ground, number) for key, number in other.items()})
        made.append(mixed)
    return tuple(made)


def shows_meet(paper, ground, size, gens, others, found):
    """Whether the found forms are left of the mixed ones if the further letter is taken out."""
    later = tuple([{(0,) + key: form[key] for key in form} for form in found])
    return shows_taken_out(paper, ground, size + 1, mixed_forms(ground, gens, others), 1, later)


def quotient_fits(ground, size, gens, form, found):
    """Whether the claim about a quotient is well made."""
    if not question_fits(ground, size, MOST_SIZE - 1) or not within_fits(ground, size, form, gens) or len(form) == 0:
        return False
    return is_reduced_row(ground, size, "lex", found)


def shows_quotient(paper, ground, size, gens, form, found):
    """Whether the meet with the form, divided by it, is what the found forms are a basis of."""
    if not is_row(paper, 4) or not meet_fits(ground, size, gens, (form,), paper[0]):
        return False
    rows, meet, divided, shown = paper
    if not are_many_told(ground, size, divided, len(rows)):
        return False
    frame = Frame(ground, size, "lex")
    divisor = frame.opened(form)
    if not all([is_sum(frame, (share,), [divisor], frame.opened(row)) for share, row in zip(divided, rows)]):
        return False
    if not shows_meet(meet, ground, size, gens, (form,), rows):
        return False
    return is_basis_shown(shown, ground, size, "lex", divided, found)


def most_free(size, keys):
    """The greatest number of letters for which none of the keys has no letters but these, -1 if there are none."""
    greatest = -1
    for many in range(size + 1):
        for letters in combinations(range(size), many):
            if not any([sum(key) == sum([key[letter] for letter in letters]) for key in keys]):
                greatest = many
    return greatest


def heads_of(ground, size, order, rows):
    """The heads of forms other than 0."""
    frame = Frame(ground, size, order)
    return [frame.unpacked(head_of(inner)) for inner in frame.all_opened(rows)]


def free_fits(ground, size, gens, many):
    """Whether the claim about free letters is well made."""
    return gens_fit(ground, size, gens) and is_int(many)


def shows_free(paper, ground, size, gens, many):
    """Whether the heads of a basis by "deg" leave so many letters free."""
    if not is_row(paper, 2) or not is_basis_shown(paper[1], ground, size, "deg", gens, paper[0]):
        return False
    return most_free(size, heads_of(ground, size, "deg", paper[0])) == many


BASIS_KINDS = {
    "basis": (5, basis_fits, shows_basis),
    "within": (4, within_fits, shows_within),
    "outside": (4, within_fits, shows_outside),
    "same lot": (4, lots_fit, shows_same_lot),
    "unlike lots": (4, lots_fit, shows_unlike_lots),
    "taken out": (5, taken_out_fits, shows_taken_out),
    "meet": (5, meet_fits, shows_meet),
    "quotient": (5, quotient_fits, shows_quotient),
    "free": (4, free_fits, shows_free),
}
