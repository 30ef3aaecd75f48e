"""Forms: sums, products, heads, divisions and crossed pairs (stage 10)."""
from zeroorone.base.plain import SIXTY_DIGITS, check_between, check_ground
from zeroorone.errors import InvalidForm, InvalidTable, Refused, TooMany, UnknownName
from zeroorone.letter.rests import check_poly
from zeroorone.many.packed import divided_by
from zeroorone.paper.forms import ORDERS, WIDTH, Frame, crossed_of, degree_of_form, difference_of, form_fits, head_of
from zeroorone.paper.forms import letter_key, monic, number_inner, power_of, product_of, put_inside, sum_of
from zeroorone.paper.forms import sum_of_products
from zeroorone.paper.numbers import is_zero, number_of, vector_fits

MAX_FORM_DEGREE = 12
MAX_FORMS = 6
MAX_MADE_DEGREE = 60
MAX_SIZE = 3


def check_size(ground, size):
    """Refuse a wrong ground, and then a wrong number of letters."""
    check_ground(ground)
    check_between(size, 1, MAX_SIZE)


def check_form(ground, size, form):
    """Refuse what is no form of the size with a degree of at most twelve."""
    if not form_fits(ground, size, form, MAX_FORM_DEGREE, SIXTY_DIGITS):
        raise InvalidForm("no form of the ground and the size")


def check_forms(ground, size, forms):
    """Refuse what is no tuple of at most six forms."""
    if not isinstance(forms, tuple) or len(forms) > MAX_FORMS:
        raise InvalidForm("no tuple of at most six forms")
    for form in forms:
        check_form(ground, size, form)


def check_order(order):
    """Refuse what is none of the two orders."""
    if order not in ORDERS:
        raise UnknownName(order)


def is_form(ground, size, value):
    """Whether the value is a form of the size with a degree of at most twelve."""
    check_size(ground, size)
    return form_fits(ground, size, value, MAX_FORM_DEGREE, SIXTY_DIGITS)


def degree(ground, size, form):
    """The degree of a form."""
    check_size(ground, size)
    check_form(ground, size, form)
    return degree_of_form(form)


def opened_pair(ground, size, one, other):
    """A frame and the inner forms of two forms; what is wrong is refused."""
    check_size(ground, size)
    check_form(ground, size, one)
    check_form(ground, size, other)
    frame = Frame(ground, size, "lex")
    return (frame, frame.opened(one), frame.opened(other))


def form_sum(ground, size, one, other):
    """The sum of two forms."""
    frame, inner, further = opened_pair(ground, size, one, other)
    return frame.closed(sum_of(frame, inner, further))


def form_less(ground, size, one, other):
    """The difference of two forms."""
    frame, inner, further = opened_pair(ground, size, one, other)
    return frame.closed(difference_of(frame, inner, further))


def form_product(ground, size, one, other):
    """The product of two forms."""
    frame, inner, further = opened_pair(ground, size, one, other)
    return frame.closed(product_of(frame, inner, further))


def form_power(ground, size, form, many):
    """The power of a form with an exponent from 0 to 60."""
    check_size(ground, size)
    check_form(ground, size, form)
    check_between(many, 0, MAX_MADE_DEGREE)
    if degree_of_form(form) * many > MAX_MADE_DEGREE:
        raise TooMany(MAX_MADE_DEGREE)
    frame = Frame(ground, size, "lex")
    return frame.closed(power_of(frame, frame.opened(form), many))


def opened_with_head(ground, size, form, order):
    """A frame and the inner form of a form other than 0; what is wrong is refused."""
    check_size(ground, size)
    check_form(ground, size, form)
    check_order(order)
    if not form:
        raise Refused(("zero",))
    frame = Frame(ground, size, order)
    return (frame, frame.opened(form))


def head(ground, size, form, order):
    """The greatest key of a form in the order."""
    frame, inner = opened_with_head(ground, size, form, order)
    return frame.unpacked(head_of(inner))


def head_number(ground, size, form, order):
    """The number of the head of a form."""
    return form[head(ground, size, form, order)]


def monic_form(ground, size, form, order):
    """The form, divided by its head number."""
    frame, inner = opened_with_head(ground, size, form, order)
    return frame.closed(monic(frame, inner))


def value_at(ground, size, form, vector):
    """The number that comes with numbers put in for the letters."""
    check_size(ground, size)
    check_form(ground, size, form)
    if not vector_fits(ground, vector, size, SIXTY_DIGITS):
        raise InvalidTable("no vector with a number for each letter")
    frame = Frame(ground, size, "lex")
    inner = put_inside(frame, form, [number_inner(frame, number) for number in vector])
    return frame.closed(inner).get((0,) * size, number_of(ground, 0))


def put_in(ground, size, form, forms):
    """The form that comes with forms put in for all letters at once."""
    check_size(ground, size)
    check_form(ground, size, form)
    check_forms(ground, size, forms)
    if len(forms) != size:
        raise InvalidForm("not as many forms as letters")
    greatest = max([degree_of_form(further) for further in forms])
    if max(degree_of_form(form), 0) * max(greatest, 0) > MAX_MADE_DEGREE:
        raise TooMany(MAX_MADE_DEGREE)
    frame = Frame(ground, size, "lex")
    return frame.closed(put_inside(frame, form, frame.all_opened(forms)))


def in_letter(ground, size, poly, index):
    """The form that a poly is in the letter with this index."""
    check_size(ground, size)
    check_poly(ground, poly)
    check_between(index, 0, size - 1)
    return {
        letter_key(size, index, exponent): number for exponent, number in enumerate(poly) if not is_zero(ground, number)
    }


def poly_of(ground, size, form, index):
    """The poly that a form without other letters is in the letter with this index."""
    check_size(ground, size)
    check_form(ground, size, form)
    check_between(index, 0, size - 1)
    numbers = [number_of(ground, 0)] * (MAX_FORM_DEGREE + 1)
    for key in form:
        if sum(key) != key[index]:
            raise Refused(("letters",))
        numbers[key[index]] = form[key]
    return tuple(numbers[:degree_of_form(form) + 1])


def divided(ground, size, form, forms, order):
    """The quotients and the rest of a form by some forms."""
    check_size(ground, size)
    check_form(ground, size, form)
    check_forms(ground, size, forms)
    check_order(order)
    frame = Frame(ground, size, order)
    quotients, rest = divided_by(frame, frame.opened(form), frame.all_opened(forms))
    return (frame.all_closed(quotients), frame.closed(rest))


def division_fits(ground, size, many, value):
    """Whether the value is a pair of a tuple of so many forms and of a form, of any degree and length."""
    if not isinstance(value, tuple) or len(value) != 2 or not isinstance(value[0], tuple) or len(value[0]) != many:
        return False
    return all([form_fits(ground, size, told, None, None) for told in value[0] + (value[1],)])


def wide_frame(ground, size, order, forms):
    """A frame in which the exponents of products of two of the forms have room."""
    exponents = [exponent for form in forms for key in form for exponent in key]
    return Frame(ground, size, order, max(exponents, default=0).bit_length() + WIDTH)


def is_division(ground, size, form, forms, order, value):
    """Whether the value is a division of the form by the forms."""
    check_size(ground, size)
    check_form(ground, size, form)
    check_forms(ground, size, forms)
    check_order(order)
    if not division_fits(ground, size, len(forms), value):
        return False
    frame = wide_frame(ground, size, order, value[0] + (value[1],))
    inner, rows = frame.opened(form), frame.all_opened(forms)
    quotients, rest = frame.all_opened(value[0]), frame.opened(value[1])
    bound = head_of(inner) if form else -1
    heads = [head_of(row) for row in rows if row[0]]
    for told, row in zip(quotients, rows):
        if told[0] and row[0] and head_of(told) + head_of(row) > bound:
            return False
    if any([key > bound or any([frame.leads(lower, key) for lower in heads]) for key in rest[0]]):
        return False
    return sum_of(frame, sum_of_products(frame, quotients, rows), rest) == inner


def crossed(ground, size, one, other, order):
    """The crossed pair of two forms."""
    check_size(ground, size)
    check_form(ground, size, one)
    check_form(ground, size, other)
    check_order(order)
    if not one or not other:
        raise Refused(("zero",))
    frame = Frame(ground, size, order)
    return frame.closed(crossed_of(frame, frame.opened(one), frame.opened(other)))
