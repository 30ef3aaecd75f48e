"""Forms as the tests reckon with them: dicts of Fractions, or integers modulo the prime, and judges of papers."""
from itertools import combinations

from helping import is_integer, is_number, random_number, read, told

from zeroorone import errors


def is_form(ground, size, value, most=12, digits=60):
    return (isinstance(value, dict) and all(
        isinstance(key, tuple) and len(key) == size and all(is_integer(x, None) and x >= 0 for x in key)
        and (most is None or sum(key) <= most) and is_number(ground, number, digits) and number not in (0, (0, 1))
        for key, number in value.items()))


def form_rule(ground, size):
    return (errors.InvalidForm, None, lambda value: is_form(ground, size, value))


def forms_rule(ground, size):
    return (errors.InvalidForm, None, lambda value: isinstance(value, tuple) and len(value) <= 6
            and all(is_form(ground, size, form) for form in value))


def order_rule():
    return (errors.UnknownName, "name", lambda value: value in ("lex", "deg"))


def size_rule(high=3):
    return (errors.InvalidNumber, "given", lambda value: is_integer(value) and 1 <= value <= high)


def opened(ground, form):
    return {key: read(ground, number) for key, number in form.items()}


def closed(ground, values):
    made = {key: told(ground, values[key]) for key in sorted(values)}
    return {key: number for key, number in made.items() if number != told(ground, 0)}


def plus(ground, one, other, sign=1):
    values = opened(ground, one)
    for key, number in opened(ground, other).items():
        values[key] = values.get(key, 0) + sign * number
    return closed(ground, values)


def times(ground, one, other):
    values = {}
    for key, number in opened(ground, one).items():
        for lower, further in opened(ground, other).items():
            place = tuple(x + y for x, y in zip(key, lower))
            values[place] = values.get(place, 0) + number * further
    return closed(ground, values)


def total(ground, forms):
    result = {}
    for form in forms:
        result = plus(ground, result, form)
    return result


def mixed(ground, multiples, forms):
    """The sum of the products."""
    return total(ground, [times(ground, one, other) for one, other in zip(multiples, forms)])


def term(ground, key, number=1):
    return closed(ground, {key: number})


def power(ground, size, form, many):
    result = term(ground, (0,) * size)
    for _ in range(many):
        result = times(ground, result, form)
    return result


def rank(order, key):
    return key if order == "lex" else (sum(key),) + key


def head(order, form):
    return max(form, key=lambda key: rank(order, key))


def leads(lower, upper):
    return all(x <= y for x, y in zip(lower, upper))


def common_key(one, other):
    return tuple(max(x, y) for x, y in zip(one, other))


def crossed(ground, one, other, order):
    """[10.5]; both products have the head number 1."""
    top = common_key(head(order, one), head(order, other))
    raised = []
    for form in (one, other):
        lower = head(order, form)
        lead = read(ground, form[lower])
        share = pow(lead, -1, ground) if ground else 1 / lead
        raised.append(times(ground, term(ground, tuple(x - y for x, y in zip(top, lower)), share), form))
    return plus(ground, raised[0], raised[1], -1)


def divided(ground, form, forms, order):
    """[10.3], turn by turn."""
    left, rest, quotients = form, {}, [{} for _ in forms]
    while left:
        top = head(order, left)
        number = read(ground, left[top])
        at = next((i for i, one in enumerate(forms) if one and leads(head(order, one), top)), None)
        if at is None:
            rest = plus(ground, rest, term(ground, top, number))
            left = plus(ground, left, term(ground, top, number), -1)
        else:
            lower = head(order, forms[at])
            lead = read(ground, forms[at][lower])
            share = number * pow(lead, -1, ground) if ground else number / lead
            made = term(ground, tuple(x - y for x, y in zip(top, lower)), share)
            quotients[at] = plus(ground, quotients[at], made)
            left = plus(ground, left, times(ground, made, forms[at]), -1)
    return tuple(quotients), rest


def random_form(source, ground, size, most, terms, numbers=4):
    values = {}
    while len(values) < terms:
        key = tuple(source.randint(0, most) for _ in range(size))
        number = random_number(source, ground, numbers)
        if sum(key) <= most and number != told(ground, 0):
            values[key] = number
        terms -= source.random() < 0.1
    return {key: values[key] for key in sorted(values)}


def are_forms(ground, size, forms, many=None):
    return (isinstance(forms, tuple) and (many is None or len(forms) == many)
            and all(is_form(ground, size, form, None, None) for form in forms))


def is_ascending(value):
    """Whether the keys of all dicts inside ascend."""
    if isinstance(value, dict):
        keys = list(value)
        return keys == sorted(keys) and all(is_ascending(one) for one in value.values())
    return not isinstance(value, (tuple, list)) or all(is_ascending(one) for one in value)


def judge_multiples(case, ground, size, form, gens, multiples):
    """That the multiples of the gens come to the form."""
    case.assertTrue(are_forms(ground, size, multiples, len(gens)))
    case.assertEqual(mixed(ground, multiples, gens), closed(ground, opened(ground, form)))


def check_reduced(case, ground, order, rows):
    heads = [head(order, row) for row in rows]
    case.assertTrue(all(row[key] == told(ground, 1) for row, key in zip(rows, heads)))
    case.assertTrue(all(rank(order, one) < rank(order, other) for one, other in zip(heads, heads[1:])))
    for at, row in enumerate(rows):
        for place, key in enumerate(heads):
            case.assertFalse(at != place and any(leads(key, one) for one in row))


def judge_basis(case, ground, size, order, gens, rows, paper):
    """[11.5]"""
    case.assertTrue(order in ("lex", "deg") and are_forms(ground, size, rows) and {} not in rows and 1 <= size <= 4)
    check_reduced(case, ground, order, rows)
    down, up, pairs = paper
    case.assertTrue(all(isinstance(part, tuple) for part in paper))
    case.assertEqual((len(down), len(up)), (len(rows), len(gens)))
    for row, multiples in zip(rows, down):
        judge_multiples(case, ground, size, row, gens, multiples)
    for gen, multiples in zip(gens, up):
        judge_multiples(case, ground, size, gen, rows, multiples)
    lots = list(combinations(rows, 2))
    case.assertEqual(len(pairs), len(lots))
    for (one, other), multiples in zip(lots, pairs):
        judge_multiples(case, ground, size, crossed(ground, one, other, order), rows, multiples)
        bound = rank(order, common_key(head(order, one), head(order, other)))
        for multiple, row in zip(multiples, rows):
            made = times(ground, multiple, row)
            case.assertTrue(made == {} or rank(order, head(order, made)) < bound)
