"""Answers of all functions that end in `_answer`, to small questions; and values near a value."""
from fractions import Fraction

from forms import plus, random_form, term, times
from helping import told
from polys import any_poly, random_poly

from zeroorone import errors
from zeroorone.base.numbers import divisor_answer, rests_answer
from zeroorone.letter.chains import alone_answer, root_order_answer, root_stretches, roots_answer, sign_answer
from zeroorone.letter.lifted import fraction_parts_answer, fraction_unsplit_answer
from zeroorone.letter.modparts import parts_answer, unsplit_answer
from zeroorone.letter.rests import common_answer, join_answer, mix_answer, resultant_answer, square_answer
from zeroorone.many.bases import basis_answer
from zeroorone.many.parted import form_parts_answer, parted_form_answer
from zeroorone.many.within import free_answer, lots_answer, meet_answer, quotient_answer, taken_out_answer
from zeroorone.many.within import within_answer
from zeroorone.points.counts import complex_answer, real_answer, signed_answer
from zeroorone.points.points import alike_answer, point_answer, wish_answer
from zeroorone.points.stairs import finite_answer, least_poly_answer, tables_answer
from zeroorone.primes.every import every_answer, every_kinds
from zeroorone.primes.primes import prime_answer, prime_parts_answer
from zeroorone.tables.atleast import follow_answer, greatest_answer, reach_answer
from zeroorone.tables.solving import rank_answer, solve_answer
from zeroorone.tables.whole import stairs_answer, steps_answer, whole_answer

GROUNDS = (0, 0, 2, 3, 5, 9973)


def number(source, ground, size=4):
    if ground:
        return source.randrange(ground)
    return told(0, Fraction(source.randint(-size, size), source.choice((1, 1, 2, 3))))


def table(source, ground, many, width, size=3):
    return tuple(tuple(number(source, ground, size) for _ in range(width)) for _ in range(many))


def integer_answers(source):
    many, width = source.randint(1, 3), source.randint(1, 3)
    whole = tuple(tuple(source.randint(-3, 3) for _ in range(width)) for _ in range(many))
    goal = tuple(source.randint(-5, 5) for _ in range(many))
    prime = source.choice([2, 3, 7, 13, 101, source.randint(2, 400)])
    pairs = tuple((source.randint(1, 12), source.randint(-20, 20)) for _ in range(source.randint(1, 4)))
    return [divisor_answer(source.randint(-50, 50), source.randint(-50, 50)), rests_answer(pairs),
            prime_answer(prime), prime_parts_answer(source.randint(1, 400)), whole_answer(whole, goal),
            stairs_answer(whole), steps_answer(whole)]


def table_answers(source):
    ground = source.choice(GROUNDS)
    many, width = source.randint(1, 3), source.randint(1, 3)
    here, goal = table(source, ground, many, width), table(source, ground, 1, many)[0]
    wishes, bounds = table(source, 0, many, width), table(source, 0, 1, many)[0]
    wish = table(source, 0, 1, width)[0]
    return [solve_answer(ground, here, goal), rank_answer(ground, here), reach_answer(wishes, bounds),
            greatest_answer(wishes, bounds, wish), follow_answer(wishes, bounds, wish, number(source, 0))]


def poly_answers(source):
    ground = source.choice(GROUNDS)
    f, g, e = (any_poly(source, ground, 4) for _ in range(3))
    share = random_poly(source, ground, source.randint(0, 2))
    pairs = tuple((random_poly(source, ground, source.randint(0, 2)), any_poly(source, ground, 2))
                  for _ in range(source.randint(0, 3)))
    found = [common_answer(ground, f, g), mix_answer(ground, f, g, e), mix_answer(ground, share, share, e)]
    if pairs:
        found.append(join_answer(ground, pairs))
    if f and g:
        found += [square_answer(ground, f), resultant_answer(ground, f, g)]
    prime = source.choice(GROUNDS[2:])
    one = random_poly(source, prime, source.randint(1, 5))
    other = random_poly(source, 0, source.randint(1, 5))
    found += [parts_answer(prime, one), unsplit_answer(prime, one[:-1] + (1,)), fraction_parts_answer(other),
              fraction_unsplit_answer(other[:-1] + ((1, 1),))]
    return found


def root_answers(source):
    f, g = random_poly(source, 0, source.randint(1, 4)), random_poly(source, 0, source.randint(1, 3))
    found = [roots_answer(f, None, None), roots_answer(f[-1:], None, (1, 2))]
    for low, high in root_stretches(f)[:1]:
        found += [roots_answer(f, low, None), alone_answer(f, low, high), sign_answer(f, g, low, high),
                  sign_answer(f, f, low, high), root_order_answer(f, low, high, f, low, high)]
        for start, stop in root_stretches(g)[:1]:
            found += [root_order_answer(f, low, high, g, start, stop)]
    return found


def form_answers(source):
    ground, size = source.choice(GROUNDS), source.randint(1, 2)
    forms = tuple(random_form(source, ground, size, 2, 2, 3) for _ in range(source.randint(0, 2)))
    others = tuple(random_form(source, ground, size, 2, 2, 3) for _ in range(source.randint(0, 1)))
    form = random_form(source, ground, size, 2, 2, 3)
    order = source.choice(("lex", "deg"))
    found = [basis_answer(ground, size, order, forms), within_answer(ground, size, form, forms),
             lots_answer(ground, size, forms, others), lots_answer(ground, size, forms, forms[::-1]),
             taken_out_answer(ground, size, forms, source.randint(0, size)), meet_answer(ground, size, forms, others),
             free_answer(ground, size, forms), finite_answer(ground, size, forms)]
    if form:
        found.append(quotient_answer(ground, size, forms, form))
    many = form and times(ground, form, form)
    found.append(within_answer(ground, size, many, (form,) + forms))
    return found


def finite_forms(source, ground, size, most=2):
    """Forms in which each letter has a power of its own as head by "deg"."""
    forms = []
    for index in range(size):
        many = source.randint(1, most)
        key = tuple(many if at == index else 0 for at in range(size))
        forms.append(plus(ground, term(ground, key), random_form(source, ground, size, many - 1, 2, 2)))
    return tuple(forms)


def point_answers(source):
    ground, size = source.choice(GROUNDS), source.randint(1, 2)
    forms = finite_forms(source, ground, size)
    form = random_form(source, ground, size, 2, 2, 2)
    found = [tables_answer(ground, size, forms), least_poly_answer(ground, size, forms, form),
             finite_answer(ground, size, forms)]
    forms = finite_forms(source, 0, size)
    form = random_form(source, 0, size, 2, 2, 2)
    found += [complex_answer(size, forms), real_answer(size, forms), signed_answer(size, forms, form)]
    zeros = tuple(random_form(source, 0, size, 2, 2, 2) for _ in range(source.randint(0, 2)))
    others = tuple(random_form(source, 0, size, 1, 2, 2) for _ in range(source.randint(0, 2)))
    found += [point_answer(size, zeros, others), point_answer(size, zeros, zeros[:1] + others[:1])]
    return found


def wish_of(source, size, depth):
    word = source.choice(("is", "is", "not", "and", "or")) if depth > 1 else "is"
    if word == "is":
        return ("is", random_form(source, 0, size, 1, 2, 2))
    many = 1 if word == "not" else source.randint(1, 2)
    return (word,) + tuple(wish_of(source, size, depth - 1) for _ in range(many))


def wish_answers(source):
    size = source.randint(1, 2)
    one, other = wish_of(source, size, 3), wish_of(source, size, 2)
    found = []
    for call, args in ((wish_answer, (one,)), (wish_answer, (("and", one, ("not", one)),)), (alike_answer, (one, other)),
                       (alike_answer, (one, ("not", ("not", one))))):
        try:
            found.append(call(size, *args))
        except errors.TooMany:
            pass
    return found


def part_answers(source):
    size = source.randint(1, 3)
    form = random_form(source, 0, size, 2, 3, 2)
    other = random_form(source, 0, size, source.randint(1, 2), 2, 2)
    found = []
    for one in (form, times(0, form, other), times(0, other, other), other):
        if one and max(map(sum, one)) >= 1:
            found += [parted_form_answer(size, one), form_parts_answer(size, one)]
    return found


MAKERS = (integer_answers, table_answers, poly_answers, root_answers, form_answers, point_answers, wish_answers,
          part_answers)


def answers(source):
    """Some answers of each stage."""
    found = [answer for make in MAKERS for answer in make(source)]
    return found + [every_answer(*answer) for answer in found if answer[0][0] in every_kinds() and answer[0][1] == 0]


def near(source, value):
    """A value near another one, told by a random source: something inside is changed, left out or doubled."""
    if isinstance(value, tuple) and value:
        at = source.randrange(len(value))
        inside = value[at]
        kind = source.randrange(10)
        if kind < 6:
            return value[:at] + (near(source, inside),) + value[at + 1:]
        if kind == 6:
            return value[:at] + value[at + 1:]
        if kind == 7:
            return value[:at] + (inside, inside) + value[at + 1:]
        if kind == 8 and all(isinstance(part, int) for part in value):
            return tuple(2 * part for part in value)
        return source.choice((list(value), value[::-1], value + (0,), value + ((),), value + (value[-1],)))
    if isinstance(value, dict):
        keys = sorted(value)
        made = {key: value[key] for key in keys}
        if not keys:
            return source.choice(((), 0, None, {(0,): 1}, {(0,): (1, 1)}, {(0, 0): (1, 1)}, {(1, 0): 1}))
        key = source.choice(keys)
        kind = source.randrange(5)
        if kind == 0:
            del made[key]
        elif kind == 1:
            made[key] = near(source, made[key])
        elif kind == 2:
            other = near(source, key)
            made[other if is_plain_key(other) else tuple(x + 1 for x in key)] = made.pop(key)
        elif kind == 3:
            made[key[::-1]] = source.choice((1, (1, 1), (0, 1), 0, True, (-1, 2)))
        else:
            return source.choice((tuple(keys), [key], None, {}, {key: made[key]}))
        return {key: made[key] for key in sorted(made)} if all(is_plain_key(key) for key in made) else {}
    if isinstance(value, str):
        return source.choice(("", "deg", "lex", "sum", "never", None, 0, value + " "))
    if value is None:
        return source.choice(((), 0, False, {}, (0, 1)))
    if value == () or isinstance(value, bool):
        return source.choice((None, 0, (0,), ((),), [], {}, ((0, 1),)))
    return source.choice((value + 1, value - 1, -value, 0, 1, 2 * value, None, (value,), bool(value), value + 5))


def is_plain_key(key):
    return isinstance(key, tuple) and all(isinstance(part, int) for part in key)
