"""Parts of forms over the fractions (stage 16)."""
from zeroorone.errors import InvalidOperation, TooMany
from zeroorone.many.packed import divided_by
from zeroorone.many.terms import check_form, check_size
from zeroorone.paper.forms import Frame, degree_of_form, head_of, ordered
from zeroorone.paper.numbers import is_between, is_row
from zeroorone.paper.parted import shifted_inner
from zeroorone.search.parting import form_rows, unsplit_form_paper

MAX_TOTAL = 4
MOST_SHIFT = 1000


def check_parted(size, form, least):
    """Refuse wrong parameters, forms of a lower degree than the least one, and then forms of too high a degree."""
    check_size(0, size)
    check_form(0, size, form)
    if degree_of_form(form) < least:
        raise InvalidOperation("no form of such a low degree")
    if degree_of_form(form) > MAX_TOTAL:
        raise TooMany(MAX_TOTAL)


def parted_form_answer(size, form):
    """The claim that a form is parted, or that it is unsplit, and a paper."""
    check_parted(size, form, 1)
    part, often = form_rows(size, form)[0]
    if often == 1 and degree_of_form(part) == degree_of_form(form):
        return (("unsplit form", size, ordered(form)), unsplit_form_paper(size, form))
    frame = Frame(0, size, "lex")
    quotients, _ = divided_by(frame, frame.opened(form), [frame.opened(part)])
    return (("parted form", size, ordered(form)), (part, frame.closed(quotients[0])))


def form_parts_answer(size, form):
    """The claim about the parts of a form, and a paper."""
    check_parted(size, form, 0)
    frame = Frame(0, size, "deg")
    number = form[frame.unpacked(head_of(frame.opened(form)))]
    rows = form_rows(size, form) if degree_of_form(form) > 0 else ()
    paper = tuple([unsplit_form_paper(size, part) for part, _ in rows])
    return (("form parts", size, ordered(form), number, rows), paper)


def shifted_form(size, form, shifts):
    """The form with each letter but the first one replaced by itself plus its integer times the first one."""
    check_size(0, size)
    check_form(0, size, form)
    if not is_row(shifts, size - 1) or not all([is_between(number, -MOST_SHIFT, MOST_SHIFT) for number in shifts]):
        raise InvalidOperation("no integers from -1000 to 1000 for the letters but the first one")
    frame = Frame(0, size, "lex")
    return frame.closed(shifted_inner(frame, form, shifts))
