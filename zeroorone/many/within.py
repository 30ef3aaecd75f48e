"""What is within forms: lots compared, letters taken out, meets, quotients, free letters (stage 12)."""
from zeroorone.base.plain import check_between
from zeroorone.errors import Refused
from zeroorone.many.bases import Basis, lex_rows, rows_by
from zeroorone.many.packed import divided_by, dividers_of, rest_by
from zeroorone.many.terms import check_form, check_forms, check_size
from zeroorone.paper.bases import mixed_forms, most_free, without_letters
from zeroorone.paper.forms import Frame, all_ordered, difference_of, head_of, letters_of, ordered, raised


def outside_paper(basis, inner):
    """The paper that an inner form, which leaves a rest, is outside."""
    frame, rows = basis.frame, basis.rows
    quotients, left = divided_by(frame, inner, rows)
    return ("deg", frame.all_closed(rows), basis.paper(frame, rows), frame.all_closed(quotients), frame.closed(left))


def is_outside(basis, inner):
    """Whether an inner form leaves a rest by the basis."""
    return len(rest_by(basis.frame, inner, dividers_of(basis.frame, basis.rows))[0]) > 0


def within_answer(ground, size, form, forms):
    """The claim that a form is within others, or outside, and a paper."""
    check_size(ground, size)
    check_form(ground, size, form)
    check_forms(ground, size, forms)
    basis = Basis(ground, size, forms)
    inner = basis.frame.opened(form)
    question = (ground, size, ordered(form), all_ordered(forms))
    if is_outside(basis, inner):
        return (("outside",) + question, outside_paper(basis, inner))
    return (("within",) + question, basis.multiples(inner))


def first_outside(basis, inners):
    """The index of the first inner form outside; None if all are within."""
    for index, inner in enumerate(inners):
        if is_outside(basis, inner):
            return index
    return None


def lots_answer(ground, size, forms, others):
    """The claim that the same forms are within two tuples of forms, or not, and a paper."""
    check_size(ground, size)
    check_forms(ground, size, forms)
    check_forms(ground, size, others)
    bases = (Basis(ground, size, forms), Basis(ground, size, others))
    question = (ground, size, all_ordered(forms), all_ordered(others))
    for side in range(2):
        basis, gens = bases[1 - side], bases[side].gens
        place = first_outside(basis, gens)
        if place is not None:
            return (("unlike lots",) + question, (side, place, outside_paper(basis, gens[place])))
    there = tuple([bases[1].multiples(gen) for gen in bases[0].gens])
    back = tuple([bases[0].multiples(gen) for gen in bases[1].gens])
    return (("same lot",) + question, (there, back))


def taken_out(basis, frame, rows, many):
    """(found, paper) of the claim about what is left if the first so many letters are taken out."""
    closed = frame.all_closed(rows)
    return (without_letters(closed, many), (closed, basis.paper(frame, rows)))


def taken_out_answer(ground, size, forms, many):
    """The claim about the forms within that do not have the first so many letters, and a paper."""
    check_size(ground, size)
    check_forms(ground, size, forms)
    check_between(many, 0, size)
    basis = Basis(ground, size, forms)
    frame, rows = basis.by("lex")
    found, paper = taken_out(basis, frame, rows, many)
    return (("taken out", ground, size, all_ordered(forms), many, found), paper)


def without_first(forms):
    """The forms without the first letter, which stands in none of them."""
    return tuple([{key[1:]: form[key] for key in form} for form in forms])


def mixed_rows(basis, forms, others):
    """The frame by "lex", and the reduced basis in it of mixed forms, of that by "first".

    Its heads are those of what is within both, and the further letter times those of what is within all forms at
    once. So both are found without this letter; a search among the mixed forms would take far longer.
    """
    ground, size = basis.frame.ground, basis.frame.size - 1
    frame = Frame(ground, size, "deg")
    met = without_first(without_letters(basis.frame.all_closed(basis.rows), 1))
    lex, found = lex_rows(frame, frame.all_opened(met))
    later = Frame(ground, size + 1, "lex")
    letter = letters_of(later)[0]
    first, dividers = dividers_of(basis.frame, basis.rows), dividers_of(lex, found)
    rows = list(found)
    for row in rows_by(ground, size, "lex", forms + others)[1]:
        if not any([lex.leads(head_of(lower), head_of(row)) for lower in found]):
            # By "lex" keys without the first letter are packed into the same integers.
            mixed = raised(row, letter)
            left = rest_by(basis.frame, basis.frame.opened(later.closed(mixed)), first)
            left = rest_by(lex, lex.all_opened(without_first([basis.frame.closed(left)]))[0], dividers)
            rows.append(difference_of(later, mixed, left))
    return (later, rows)


def meet(ground, size, forms, others):
    """(found, paper) of the claim about the forms within both."""
    basis = Basis(ground, size + 1, mixed_forms(ground, forms, others), "first")
    frame, rows = mixed_rows(basis, forms, others)
    later, paper = taken_out(basis, frame, rows, 1)
    return (without_first(later), paper)


def meet_answer(ground, size, forms, others):
    """The claim about the forms within two tuples of forms, and a paper."""
    check_size(ground, size)
    check_forms(ground, size, forms)
    check_forms(ground, size, others)
    found, paper = meet(ground, size, forms, others)
    return (("meet", ground, size, all_ordered(forms), all_ordered(others), found), paper)


def quotient_answer(ground, size, forms, form):
    """The claim about the forms that, times a form, are within others, and a paper."""
    check_size(ground, size)
    check_forms(ground, size, forms)
    check_form(ground, size, form)
    if not form:
        raise Refused(("zero",))
    rows, paper = meet(ground, size, forms, (form,))
    frame = Frame(ground, size, "lex")
    divisor = frame.opened(form)
    divided = tuple([frame.closed(divided_by(frame, row, [divisor])[0][0]) for row in frame.all_opened(rows)])
    # These are a basis by "lex" already, only not reduced.
    basis = Basis(ground, size, divided, "lex")
    claim = ("quotient", ground, size, all_ordered(forms), ordered(form), frame.all_closed(basis.rows))
    return (claim, (rows, paper, divided, basis.paper(frame, basis.rows)))


def free_answer(ground, size, forms):
    """The claim about the greatest number of free letters, and a paper."""
    check_size(ground, size)
    check_forms(ground, size, forms)
    basis = Basis(ground, size, forms)
    frame, rows = basis.frame, basis.rows
    many = most_free(size, [frame.unpacked(head_of(row)) for row in rows])
    return (("free", ground, size, all_ordered(forms), many), (frame.all_closed(rows), basis.paper(frame, rows)))
