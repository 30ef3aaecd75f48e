"""Texts of numbers, polys, forms, plain values and books, and how they are read (stage 20)."""
from zeroorone.base.plain import SIXTY_DIGITS, check_ground, check_number
from zeroorone.book.book import MAX_LINES, Book
from zeroorone.book.steps import line_fits
from zeroorone.errors import InvalidOperation, ParseError
from zeroorone.letter.rests import MAX_DEGREE, check_poly
from zeroorone.many.terms import MAX_FORM_DEGREE, check_form, check_size
from zeroorone.paper.forms import degree_of_form, form_fits
from zeroorone.paper.numbers import is_zero, number_fits, number_of
from zeroorone.text.values import MOST_DEPTH, are_digits, digits, integer_of, is_plain, read_at, text_of

LETTERS = "abc"
MOST_DIGITS = 60


def plain_number_text(ground, number):
    """The text of a number."""
    if ground != 0:
        return digits(number)
    return digits(number[0]) if number[1] == 1 else digits(number[0]) + "/" + digits(number[1])


def powers_text(letters, key):
    """The letters with powers above 0, joined."""
    told = []
    for letter, exponent in zip(letters, key):
        if exponent == 1:
            told.append(letter)
        elif exponent > 1:
            told.append(letter + "^" + digits(exponent))
    return "*".join(told)


def term_text(ground, number, powers):
    """The text of a term, of a number and of letters with powers, if there are any."""
    text = plain_number_text(ground, number)
    if powers == "":
        return text
    if text in ("1", "-1"):
        return text[:-1] + powers
    return text + "*" + powers


def terms_text(ground, letters, terms):
    """The text of terms, pairs of a key and a number, in their sequence."""
    result = ""
    for key, number in terms:
        text = term_text(ground, number, powers_text(letters, key))
        result += text if result == "" or text[0] == "-" else "+" + text
    return result or "0"


def plain_form_text(ground, size, form):
    """The text of a form."""
    keys = [key for _, key in sorted([(sum(key), key) for key in form], reverse=True)]
    return terms_text(ground, LETTERS[:size], [(key, form[key]) for key in keys])


def plain_poly_text(ground, poly):
    """The text of a poly."""
    terms = [((exponent,), number) for exponent, number in enumerate(poly) if not is_zero(ground, number)]
    return terms_text(ground, "x", list(reversed(terms)))


def number_text(ground, number):
    """The text of a number of the ground."""
    check_ground(ground)
    check_number(ground, number)
    return plain_number_text(ground, number)


def poly_text(ground, poly):
    """The text of a poly of the ground."""
    check_ground(ground)
    check_poly(ground, poly)
    return plain_poly_text(ground, poly)


def form_text(ground, size, form):
    """The text of a form."""
    check_size(ground, size)
    check_form(ground, size, form)
    return plain_form_text(ground, size, form)


def told_number(ground, text):
    """The number that a string tells, perhaps in another form than its text; None if it tells none."""
    sign, rest = (-1, text[1:]) if text[:1] == "-" else (1, text)
    top, bar, bottom = rest.partition("/")
    if bar == "":
        bottom = "1"
    if not are_digits(top) or not are_digits(bottom) or max(len(top), len(bottom)) > MOST_DIGITS:
        return None
    if ground == 0:
        return (sign * integer_of(top), integer_of(bottom))
    return integer_of(top) if rest == text and bar == "" else None


def told_powers(letters, factors):
    """The exponents that strings tell for letters, perhaps in another form than their text; None if they tell none."""
    counts = [0 for _ in letters]
    for factor in factors:
        letter, bar, exponent = factor.partition("^")
        if bar == "":
            exponent = "1"
        # Longer exponents are too great.
        if len(letter) != 1 or letter not in letters or not are_digits(exponent) or len(exponent) > 2:
            return None
        counts[letters.index(letter)] += integer_of(exponent)
    return tuple(counts)


def told_term(ground, letters, text):
    """The pair of exponents and a number that a string tells, perhaps in another form than its text; None if none."""
    text = text[1:] if text[:1] == "+" else text
    sign, rest = ("-", text[1:]) if text[:1] == "-" else ("", text)
    factors = rest.split("*")
    front = "1"
    if "0" <= rest[:1] <= "9":
        front, factors = factors[0], factors[1:]
    key, number = told_powers(letters, factors), told_number(ground, sign + front)
    return None if key is None or number is None else (key, number)


def told_terms(ground, letters, text):
    """The dict from exponents to numbers that a string tells, perhaps in another form than its text; None if none."""
    starts = [0] + [at for at, sign in enumerate(text) if sign in "+-" and at > 0] + [len(text)]
    made = {}
    for at in range(len(starts) - 1):
        term = told_term(ground, letters, text[starts[at]:starts[at + 1]])
        if term is None:
            return None
        made[term[0]] = term[1]
    return {key: made[key] for key in sorted(made)}


def check_text(value):
    """Refuse what is no string."""
    if not isinstance(value, str):
        raise ParseError(None)


def read_number(ground, value):
    """The number of the ground with this text."""
    check_ground(ground)
    check_text(value)
    number = told_number(ground, value)
    if number is None or not number_fits(ground, number, SIXTY_DIGITS) or plain_number_text(ground, number) != value:
        raise ParseError(None)
    return number


def read_form(ground, size, value):
    """The form with this text."""
    check_size(ground, size)
    check_text(value)
    form = {} if value == "0" else told_terms(ground, LETTERS[:size], value)
    # Each form has one text, so what is told in another form is found out by it.
    if form is None or not form_fits(ground, size, form, MAX_FORM_DEGREE, SIXTY_DIGITS):
        raise ParseError(None)
    if plain_form_text(ground, size, form) != value:
        raise ParseError(None)
    return form


def read_poly(ground, value):
    """The poly of the ground with this text."""
    check_ground(ground)
    check_text(value)
    terms = {} if value == "0" else told_terms(ground, "x", value)
    if terms is None or not form_fits(ground, 1, terms, MAX_DEGREE, SIXTY_DIGITS):
        raise ParseError(None)
    poly = tuple([terms.get((at,), number_of(ground, 0)) for at in range(degree_of_form(terms) + 1)])
    if plain_poly_text(ground, poly) != value:
        raise ParseError(None)
    return poly


def value_text(value):
    """The text of a plain value."""
    if not is_plain(value, MOST_DEPTH):
        raise InvalidOperation("no plain value")
    return text_of(value)


def read_value(value):
    """The plain value with this text."""
    check_text(value)
    found = read_at(value, 0, MOST_DEPTH)
    if found is None or found[1] != len(value):
        raise ParseError(None)
    return found[0]


def book_text(book):
    """The text of a book."""
    if not isinstance(book, Book):
        raise InvalidOperation("no book")
    return "\n".join([name + " " + value_text(claim) + " " + value_text(reason) for name, claim, reason in book.rows()])


def told_line(row):
    """The line whose text a row is; None if it is none."""
    name, _, rest = row.partition(" ")
    claim = read_at(rest, 0, MOST_DEPTH)
    if claim is None or rest[claim[1]:claim[1] + 1] != " ":
        return None
    reason = read_at(rest, claim[1] + 1, MOST_DEPTH)
    if reason is None or reason[1] != len(rest):
        return None
    return (name, claim[0], reason[0])


def read_book(value):
    """The book with this text."""
    check_text(value)
    lines, known = [], {}
    rows = value.split("\n") if value != "" else []
    for index, row in enumerate(rows):
        line = told_line(row)
        if index >= MAX_LINES or line is None or not line_fits(line, known):
            raise ParseError(index)
        lines.append(line)
        known[line[0]] = True
    return Book().told(tuple(lines))
