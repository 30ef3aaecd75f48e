"""Points at which forms are 0 or not, and wishes of equations, over the fractions (stage 14)."""
from zeroorone.base.plain import SIXTY_DIGITS, check_between
from zeroorone.errors import InvalidForm, InvalidPoly, InvalidTable, InvalidWish, Refused, TooMany
from zeroorone.letter.lifted import roots_of_fractions
from zeroorone.letter.rests import number_at
from zeroorone.many.bases import rows_by
from zeroorone.many.terms import MAX_SIZE
from zeroorone.paper.forms import Frame, all_ordered, form_fits, number_inner, put_inside
from zeroorone.paper.letter import all_opened, are_polys, is_monic_part
from zeroorone.paper.numbers import common_multiple, vector_fits
from zeroorone.paper.places import are_lower, put_at
from zeroorone.paper.polys import closed, opened
from zeroorone.paper.values import copied
from zeroorone.paper.wishes import case_at, count_cases, only, wish_fits
from zeroorone.points.stairs import is_unit, thinned_of, told_by_mix
from zeroorone.search.pointing import place_or_power

MAX_DEGREE = 4
MAX_ZEROS = 6
MAX_OTHERS = 3
MAX_CASES = 32
MAX_DEPTH = 6
MOST_MEMBERS = 6
MOST_POINTS = 64


def is_low_form(size, value):
    """Whether the value is a form of the size with a degree of at most four."""
    return form_fits(0, size, value, MAX_DEGREE, SIXTY_DIGITS)


def check_size(size):
    """Refuse what is no number of letters."""
    check_between(size, 1, MAX_SIZE)


def check_forms(size, forms, most):
    """Refuse what is no tuple of at most so many forms."""
    if not isinstance(forms, tuple) or len(forms) > most or not all([is_low_form(size, form) for form in forms]):
        raise InvalidForm("no tuple of forms of a degree of at most four")


def check_zeros(size, zeros):
    """Refuse a wrong number of letters, and then what is no tuple of at most six forms."""
    check_size(size)
    check_forms(size, zeros, MAX_ZEROS)


def at_point(size, form, m, values):
    """What the form is at a point."""
    check_size(size)
    if not is_low_form(size, form):
        raise InvalidForm("no form of a degree of at most four")
    if not is_monic_part(0, m) or len(m) > MOST_POINTS + 1:
        raise InvalidPoly("no monic poly of a degree from 1 to 64")
    if not are_polys(0, values, size) or not are_lower(values, m):
        raise InvalidPoly("no polys of lesser degrees for the letters")
    return closed(0, put_at(0, form, opened(0, m), all_opened(0, values)))


def point_answer(size, zeros, others):
    """The claim that there is a point at which zeros are 0 and others are not, or none, and a paper."""
    check_zeros(size, zeros)
    check_forms(size, others, MAX_OTHERS)
    is_there, paper = place_or_power(size, zeros, others)
    return (("point" if is_there else "no point", 0, size, all_ordered(zeros), all_ordered(others)), paper)


def all_points(size, zeros):
    """A pair (m, values) that tells all common zeros of the forms."""
    check_zeros(size, zeros)
    frame, rows = rows_by(0, size, "deg", zeros)
    if is_unit(rows):
        raise Refused(("none",))
    return told_by_mix(frame, thinned_of(frame, rows, size), size)[1:]


def fraction_points(size, zeros):
    """All common zeros of the forms that are tuples of fractions, ascending by values."""
    check_zeros(size, zeros)
    frame, rows = rows_by(0, size, "deg", zeros)
    if is_unit(rows):
        return ()
    _, poly, values = told_by_mix(frame, thinned_of(frame, rows, size), size)
    places = [tuple([number_at(0, value, root) for value in values]) for root in roots_of_fractions(opened(0, poly))]
    bottom = common_multiple([number[1] for place in places for number in place])
    ranked = sorted([(tuple([top * (bottom // below) for top, below in place]), place) for place in places])
    return tuple([place for _, place in ranked])


def is_wish(size, value):
    """Whether the value is a wish of equations of a degree of at most four, at most six deep."""
    check_size(size)
    return wish_fits(value, lambda form: is_low_form(size, form), MOST_MEMBERS, MAX_DEPTH)


def check_wish(size, wish):
    """Refuse what is no wish."""
    if not is_wish(size, wish):
        raise InvalidWish("no wish of the size")


def check_cases(wishes):
    """Refuse wishes of which one has too many cases."""
    if max([count_cases(wish, False) for wish in wishes]) > MAX_CASES:
        raise TooMany(MAX_CASES)


def cases(size, wish):
    """The cases of the wish, pairs of zeros and others."""
    check_wish(size, wish)
    check_cases((wish,))
    return tuple([copied(case_at(wish, False, index)) for index in range(count_cases(wish, False))])


def holds_at(frame, wish, inners):
    """Whether the wish holds if inner numbers are put in for the letters."""
    if wish[0] == "is":
        return len(put_inside(frame, wish[1], inners)[0]) == 0
    told = [holds_at(frame, member, inners) for member in wish[1:]]
    if wish[0] == "not":
        return not told[0]
    return all(told) if wish[0] == "and" else any(told)


def holds(size, wish, place):
    """Whether the wish holds at a place of fractions."""
    check_wish(size, wish)
    if not vector_fits(0, place, size, SIXTY_DIGITS):
        raise InvalidTable("no place with a fraction for each letter")
    check_cases((wish,))
    frame = Frame(0, size, "lex")
    return holds_at(frame, wish, [number_inner(frame, number) for number in place])


def found_for(size, wish):
    """(happens, paper): whether there is a point for one of the cases of the wish, and a paper."""
    papers = []
    for index in range(count_cases(wish, False)):
        zeros, others = case_at(wish, False, index)
        is_there, paper = place_or_power(size, zeros, others)
        if is_there:
            return (True, (index,) + paper)
        papers.append(paper)
    return (False, tuple(papers))


def wish_answer(size, wish):
    """The claim that the wish happens, or never does, and a paper."""
    check_wish(size, wish)
    check_cases((wish,))
    happens, paper = found_for(size, wish)
    return (("happens" if happens else "never", size, copied(wish)), paper)


def alike_answer(size, one, other):
    """The claim that two wishes are alike, or unlike, and a paper."""
    check_wish(size, one)
    check_wish(size, other)
    sides = (only(one, other), only(other, one))
    check_cases((one, other) + sides)
    question = (size, copied(one), copied(other))
    papers = []
    for side in range(2):
        happens, paper = found_for(size, sides[side])
        if happens:
            return (("unlike",) + question, (side, paper))
        papers.append(paper)
    return (("alike",) + question, tuple(papers))
