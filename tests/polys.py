"""Polys as the tests reckon with them: by Fractions, or integers modulo the prime, without the package's help."""
from fractions import Fraction

from helping import is_poly, random_number, read, told

from zeroorone import errors


def made(ground, values):
    """The poly with these reckoned numbers."""
    numbers = [told(ground, value) for value in values]
    while numbers and numbers[-1] == told(ground, 0):
        numbers.pop()
    return tuple(numbers)


def plus(ground, one, other, sign=1):
    many = max(len(one), len(other))
    rows = [[read(ground, number) for number in poly] + [0] * (many - len(poly)) for poly in (one, other)]
    return made(ground, [x + sign * y for x, y in zip(*rows)])


def times(ground, *polys):
    result = made(ground, [1])
    for poly in polys:
        values = [0] * (len(result) + len(poly))
        for i, x in enumerate(result):
            for j, y in enumerate(poly):
                values[i + j] += read(ground, x) * read(ground, y)
        result = made(ground, values)
    return result


def slope(ground, poly):
    return made(ground, [k * read(ground, number) for k, number in enumerate(poly)][1:])


def value(ground, poly, number):
    return told(ground, sum(read(ground, part) * read(ground, number) ** k for k, part in enumerate(poly)))


def random_poly(source, ground, degree, size=4):
    if degree < 0:
        return ()
    while True:
        poly = tuple(random_number(source, ground, size) for _ in range(degree + 1))
        if poly[-1] != told(ground, 0):
            return poly


def any_poly(source, ground, most=5, least=-1):
    return random_poly(source, ground, source.randint(least, most))


def poly_rule(ground):
    return (errors.InvalidPoly, None, lambda value: is_poly(ground, value))


def are_polys(ground, polys):
    return isinstance(polys, tuple) and all(is_poly(ground, poly, None, None) for poly in polys)


def is_monic(ground, poly):
    return poly != () and poly[-1] == told(ground, 1)


def halves(ground, one, other):
    """The quotient and the rest; the second poly is not ()."""
    left = [read(ground, number) for number in one]
    divisor = [read(ground, number) for number in other]
    parts = [0] * max(len(left) - len(divisor) + 1, 0)
    for at in reversed(range(len(parts))):
        lead = left[at + len(divisor) - 1]
        parts[at] = lead * pow(divisor[-1], -1, ground) % ground if ground else Fraction(lead) / divisor[-1]
        for j, number in enumerate(divisor):
            left[at + j] -= parts[at] * number
        if ground:
            left = [number % ground for number in left]
    return made(ground, parts), made(ground, left)


def rest(ground, one, other):
    return halves(ground, one, other)[1]


def common(ground, one, other):
    """The monic poly that both have in common; () for () and ()."""
    while other != ():
        one, other = other, rest(ground, one, other)
    return monic(ground, one)


def monic(ground, poly):
    return halves(ground, poly, poly[-1:])[0] if poly else ()


def power_rest(ground, one, many, poly):
    result, base = rest(ground, made(ground, [1]), poly), rest(ground, one, poly)
    while many:
        if many % 2:
            result = rest(ground, times(ground, result, base), poly)
        base = rest(ground, times(ground, base, base), poly)
        many //= 2
    return result


def prime_divisors(number):
    return [q for q in range(2, number + 1) if number % q == 0 and all(q % k for k in range(2, q))]


def judge_unsplit_modulo(case, prime, f, paper):
    """The paper of [7.3], for any prime."""
    n = len(f) - 1
    case.assertTrue(n >= 1 and is_monic(prime, f))
    t = made(prime, [0, 1])
    turns = [rest(prime, t, f)]
    for _ in range(n):
        turns.append(power_rest(prime, turns[-1], prime, f))
    case.assertEqual(turns[n], rest(prime, t, f))
    parts = prime_divisors(n)
    case.assertTrue(isinstance(paper, tuple) and len(paper) == len(parts))
    for q, (u, v) in zip(parts, paper):
        case.assertTrue(are_polys(prime, (u, v)))
        r = plus(prime, turns[n // q], t, -1)
        case.assertEqual(plus(prime, times(prime, u, f), times(prime, v, r)), (1,))


def judge_parted(case, claim, paper):
    kind, ground, f = claim
    g, h = paper
    case.assertEqual(kind, "parted")
    case.assertTrue(are_polys(ground, paper) and len(g) >= 2 and len(h) >= 2)
    case.assertEqual(times(ground, g, h), f)


def judge_parts(case, claim, paper, judge_unsplit):
    """The claim and the paper of [7.1] and [7.3]; the last argument judges the paper of one part."""
    kind, ground, f, row = claim
    case.assertEqual(kind, "parts")
    case.assertTrue(all(is_monic(ground, part) and len(part) >= 2 and many >= 1 for part, many in row))
    order = [(len(part), part) for part, _ in row]
    case.assertTrue(all(one < other for one, other in zip(order, order[1:])))
    case.assertEqual(times(ground, f[-1:], *[part for part, many in row for _ in range(many)]), f)
    case.assertTrue(isinstance(paper, tuple) and len(paper) == len(row))
    for (part, _), shown in zip(row, paper):
        judge_unsplit(case, part, shown)
