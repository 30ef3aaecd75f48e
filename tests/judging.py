"""Which values are claims and papers, told by the tests once more, word by word, by Fractions and plain dicts."""
from fractions import Fraction
from itertools import combinations, product
from math import gcd

from forms import head, judge_basis, leads, mixed, plus, power, rank, term, times
from helping import is_ground, is_integer, is_number, told
from polys import judge_parted, judge_parts, judge_unsplit_modulo, made, plus as poly_plus, rest
from polys import times as poly_times
from test_atleast import judge as judge_wishes
from test_chains import judge_alone, judge_order, judge_roots, judge_sign
from test_lifted import judge_unsplit as judge_unsplit_fraction
from test_primes import judge_rows
from test_rests import judge_common, judge_joined, judge_mixed, judge_resultant, judge_square
from test_solving import judge_rank, judge_solved
from test_stairs import judge_finite, judge_least_poly, judge_tables
from test_whole import determinant, parts as table_parts, told_stairs
from test_within import judge_free, judge_lots, judge_meet, judge_quotient, judge_taken_out, judge_within

MOST = 10 ** 4
FORM_KINDS = ("basis", "within", "same lot", "meet", "quotient", "taken out", "free", "finite", "endless", "tables",
              "least poly", "point", "happens", "alike", "complex points", "signed points", "parted form", "form parts")
EVERY = ("barred", "basis", "common", "no point", "parted", "point", "rank", "same lot", "solved", "within")


class Judge:
    """What the judges of the other tests call; a failure tells that the value is no paper."""

    def assertTrue(self, value, *_):
        assert value

    def assertFalse(self, value, *_):
        assert not value

    def assertEqual(self, one, other, *_):
        assert one == other

    def assertNotEqual(self, one, other, *_):
        assert one != other

    def assertIn(self, one, other, *_):
        assert one in other

    def assertIsNone(self, value, *_):
        assert value is None

    def assertIsInstance(self, value, kind, *_):
        assert isinstance(value, kind)

    def assertLess(self, one, other, *_):
        assert one < other

    def assertGreater(self, one, other, *_):
        assert one > other


CASE = Judge()


def is_strict(value):
    """Whether no booleans and no lists are inside."""
    if isinstance(value, tuple):
        return all(is_strict(member) for member in value)
    if isinstance(value, dict):
        return all(is_strict(key) and is_strict(value[key]) for key in value)
    return value is None or isinstance(value, str) or isinstance(value, int) and not isinstance(value, bool)


def has_dicts(value):
    return isinstance(value, dict) or isinstance(value, tuple) and any(has_dicts(member) for member in value)


def has_forms(claim):
    """Whether claims of the kind are about forms."""
    kind = claim[1][0] if claim[0] == "all primes but" else claim[0]
    return LIKE.get(kind, kind) in FORM_KINDS


# Members of claims.

def integer(value, low=None, high=None):
    return is_integer(value, None) and (low is None or value >= low) and (high is None or value <= high)


def integers(value, many=None):
    return isinstance(value, tuple) and (many is None or len(value) == many) and all(integer(x) for x in value)


def number(ground, value):
    return is_number(ground, value, None)


def vector(ground, value, many):
    return isinstance(value, tuple) and len(value) == many and all(number(ground, x) for x in value)


def rows(value):
    return (isinstance(value, tuple) and len(value) > 0 and all(isinstance(row, tuple) and row for row in value)
            and len({len(row) for row in value}) == 1)


def table(ground, value):
    return rows(value) and all(number(ground, x) for row in value for x in row)


def whole_table(value):
    return rows(value) and all(integer(x) for row in value for x in row)


def poly(ground, value):
    return (isinstance(value, tuple) and all(number(ground, x) for x in value)
            and (value == () or value[-1] != told(ground, 0)))


def monic(ground, value, least=0):
    return poly(ground, value) and len(value) > least and value[-1] == told(ground, 1)


def form(ground, size, value):
    return isinstance(value, dict) and all(
        isinstance(key, tuple) and len(key) == size and all(integer(x, 0, MOST) for x in key)
        and number(ground, value[key]) and value[key] != told(ground, 0) for key in value)


def forms(ground, size, value, many=None):
    return (isinstance(value, tuple) and (many is None or len(value) == many)
            and all(form(ground, size, one) for one in value))


def end(value):
    return value is None or number(0, value)


def stretch(low, high):
    return end(low) and end(high) and (low is None or high is None or Fraction(*low) < Fraction(*high))


def reduced(ground, size, order, value):
    if order not in ("lex", "deg") or not forms(ground, size, value) or {} in value:
        return False
    tops = [head(order, row) for row in value]
    return (all(row[top] == told(ground, 1) for row, top in zip(value, tops))
            and all(rank(order, one) < rank(order, other) for one, other in zip(tops, tops[1:]))
            and not any(leads(top, key) for i, row in enumerate(value) for key in row
                        for j, top in enumerate(tops) if i != j))


def degree(value):
    return max([sum(key) for key in value], default=-1)


def part_form(size, value):
    return form(0, size, value) and degree(value) >= 1 and (degree(value) + 1) ** size <= 10 ** 5


def wish(size, value):
    if not isinstance(value, tuple) or len(value) < 2:
        return False
    if value[0] == "is":
        return len(value) == 2 and form(0, size, value[1])
    if value[0] == "not":
        return len(value) == 2 and wish(size, value[1])
    return value[0] in ("and", "or") and all(wish(size, member) for member in value[1:])


def pair_rows(value, first):
    return isinstance(value, tuple) and all(isinstance(row, tuple) and len(row) == 2 and first(row[0])
                                            and integer(row[1]) for row in value)


def ascending(values):
    return all(one < other for one, other in zip(values, values[1:]))


def prime_parts(n, parts):
    if not integer(n, 1) or not pair_rows(parts, integer) or not all(e >= 1 for _, e in parts):
        return False
    result = 1
    for q, e in parts:
        result *= q ** e
    return ascending([q for q, _ in parts]) and result == n and (n > 1 or parts == ())


def parts_row(p, f, row):
    if not poly(p, f) or f == () or not pair_rows(row, lambda g: monic(p, g, 1)) or not all(e >= 1 for _, e in row):
        return False
    return (ascending([(len(g), g) for g, _ in row]) and sum(e * (len(g) - 1) for g, e in row) == len(f) - 1
            and poly_times(p, f[-1:], *[g for g, e in row for _ in range(e)]) == f)


def form_parts(size, f, told_number, parts):
    if not form(0, size, f) or f == {} or (degree(f) + 1) ** size > 10 ** 5:
        return False
    if not number(0, told_number) or told_number[0] == 0 or not pair_rows(parts, lambda g: part_form(size, g)):
        return False
    if not all(e >= 1 and g[head("deg", g)] == (1, 1) for g, e in parts):
        return False
    if sum(e * degree(g) for g, e in parts) != degree(f):
        return False
    result = {(0,) * size: told_number}
    for g, e in parts:
        result = times(0, result, power(0, size, g, e))
    return ascending([(degree(g), tuple(sorted(g.items()))) for g, _ in parts]) and result == f


def gens(p, k, value, most=4):
    return is_ground(p) and integer(k, 1, most) and forms(p, k, value)


def tables(p, k, g, products, value):
    return (gens(p, k, g) and isinstance(products, tuple)
            and all(integers(key, k) and all(x >= 0 for x in key) for key in products)
            and isinstance(value, tuple) and len(value) == k
            and all(isinstance(one, tuple) and len(one) == len(products)
                    and all(vector(p, row, len(products)) for row in one) for one in value))


def equations(p, a, b):
    return is_ground(p) and table(p, a) and vector(p, b, len(a))


def wishes(a, b, c=None, v=None):
    return (table(0, a) and vector(0, b, len(a)) and (c is None or vector(0, c, len(a[0])))
            and (v is None or number(0, v)))


def square_rows(p, f, value):
    return is_ground(p) and poly(p, f) and f != () and pair_rows(value, lambda g: poly(p, g))


MADE = {
    "divisor": lambda a, b, g: integer(a) and integer(b) and integer(g, 0),
    "rests": lambda pairs: pairs != () and pair_rows(pairs, lambda m: integer(m, 1)),
    "prime": lambda n: integer(n, 2),
    "prime parts": prime_parts,
    "solved": equations,
    "rank": lambda p, a, n: is_ground(p) and table(p, a) and integer(n, 0),
    "whole": lambda a, b: whole_table(a) and integers(b, len(a)),
    "stairs": lambda a, r: whole_table(a) and (r == () or whole_table(r) and told_stairs(r)
                                               and len(r[0]) == len(a[0])),
    "steps": lambda a, s: whole_table(a) and len(a) <= 6 and len(a[0]) <= 6 and integers(s) and all(x >= 1 for x in s),
    "reached": wishes,
    "greatest": lambda a, b, c, v: wishes(a, b, c, v) and c is not None and v is not None,
    "no greatest": lambda a, b, c: wishes(a, b, c) and c is not None,
    "common": lambda p, f, g, h: is_ground(p) and poly(p, f) and poly(p, g) and (h == () or monic(p, h)),
    "mixed": lambda p, f, g, e: is_ground(p) and poly(p, f) and poly(p, g) and poly(p, e),
    "joined": lambda p, pairs: is_ground(p) and isinstance(pairs, tuple) and all(
        isinstance(pair, tuple) and len(pair) == 2 and poly(p, pair[0]) and poly(p, pair[1]) and pair[0] != ()
        for pair in pairs),
    "square parts": square_rows,
    "resultant": lambda p, f, g, s: is_ground(p) and poly(p, f) and poly(p, g) and () not in (f, g) and number(p, s),
    "unsplit": lambda p, f: is_ground(p) and monic(p, f, 1),
    "parted": lambda p, f: is_ground(p) and poly(p, f) and len(f) >= 3,
    "parts": lambda p, f, row: is_ground(p) and parts_row(p, f, row),
    "roots": lambda f, a, b, n: poly(0, f) and f != () and stretch(a, b) and integer(n, 0),
    "alone": lambda f, a, b: poly(0, f) and f != () and stretch(a, b),
    "sign": lambda f, g, a, b, s: poly(0, f) and f != () and poly(0, g) and stretch(a, b) and integer(s, -1, 1),
    "root order": lambda f, a, b, g, c, d, s: poly(0, f) and poly(0, g) and () not in (f, g) and stretch(a, b)
    and stretch(c, d) and integer(s, -1, 1),
    "basis": lambda p, k, o, g, r: gens(p, k, g) and reduced(p, k, o, r),
    "within": lambda p, k, f, g: gens(p, k, g) and form(p, k, f),
    "same lot": lambda p, k, g, h: gens(p, k, g) and forms(p, k, h),
    "meet": lambda p, k, g, h, r: gens(p, k, g, 3) and forms(p, k, h) and reduced(p, k, "lex", r),
    "quotient": lambda p, k, g, f, r: gens(p, k, g, 3) and form(p, k, f) and f != {} and reduced(p, k, "lex", r),
    "taken out": lambda p, k, g, n, r: gens(p, k, g) and integer(n, 0, k) and reduced(p, k, "lex", r),
    "free": lambda p, k, g, n: gens(p, k, g) and integer(n),
    "finite": lambda p, k, g, n: gens(p, k, g) and integer(n),
    "endless": gens,
    "tables": tables,
    "least poly": lambda p, k, g, f, m: gens(p, k, g) and form(p, k, f) and monic(p, m),
    "point": lambda p, k, z, o: gens(p, k, z) and forms(p, k, o),
    "happens": lambda k, w: integer(k, 1, 4) and wish(k, w),
    "alike": lambda k, v, w: integer(k, 1, 4) and wish(k, v) and wish(k, w),
    "complex points": lambda k, g, n: gens(0, k, g) and integer(n),
    "signed points": lambda k, g, f, n, m: gens(0, k, g) and form(0, k, f) and integer(n) and integer(m),
    "parted form": lambda k, f: integer(k, 1, 4) and part_form(k, f),
    "form parts": lambda k, f, n, parts: integer(k, 1, 4) and form_parts(k, f, n, parts),
    "all primes but": lambda claim, n: is_made(claim) and claim[0] in EVERY and claim[1] == 0 and integer(n, 1),
}
OPPOSITES = {"rests": "no rests", "prime": "split", "solved": "barred", "whole": "never whole",
             "reached": "never reached", "follows": "escapes", "mixed": "never mixed", "joined": "never joined",
             "unsplit": "parted", "within": "outside", "same lot": "unlike lots", "point": "no point",
             "happens": "never", "alike": "unlike", "parted form": "unsplit form"}
LIKE = {other: kind for kind, other in OPPOSITES.items() if kind != "unsplit"}
LIKE.update({"follows": "greatest", "escapes": "greatest", "real points": "complex points"})
LENGTHS = {"reached": 3, "never reached": 3, "endless": 4}


def is_made(claim):
    """Whether the value is a well made claim."""
    if not isinstance(claim, tuple) or not claim or not isinstance(claim[0], str) or not is_strict(claim):
        return False
    judge = MADE.get(LIKE.get(claim[0], claim[0]))
    if judge is None or len(claim) != LENGTHS.get(claim[0], len(claim)):
        return False
    try:
        return bool(judge(*claim[1:]))
    except TypeError:
        # The wrong number of members, or members of a wrong kind.
        return False


# Papers.

def judge_divisor(claim, paper):
    _, a, b, g = claim
    u, v, c, d = paper
    assert integers(paper) and (u * a + v * b, c * g, d * g) == (g, a, b)


def judge_rests(claim, paper):
    kind, pairs = claim
    if kind == "rests":
        assert integer(paper) and all((paper - r) % m == 0 for m, r in pairs)
    else:
        i, j, g = paper
        assert integers(paper) and 0 <= i < j < len(pairs) and g >= 1
        assert pairs[i][0] % g == 0 and pairs[j][0] % g == 0 and (pairs[i][1] - pairs[j][1]) % g != 0


def judge_prime(claim, paper):
    if claim[0] == "prime":
        judge_rows(CASE, claim[1], paper)
    else:
        assert integers(paper, 2) and min(paper) >= 2 and paper[0] * paper[1] == claim[1]


def judge_prime_parts(claim, paper):
    assert isinstance(paper, tuple) and len(paper) == len(claim[2])
    for (q, _), shown in zip(claim[2], paper):
        assert q >= 2
        judge_rows(CASE, q, shown)


def judge_whole(claim, paper):
    kind, a, b = claim
    if kind == "whole":
        assert integers(paper, len(a[0])) and all(sum(x * y for x, y in zip(row, paper)) == c for row, c in zip(a, b))
    else:
        assert vector(0, paper, len(a))
        y = [Fraction(*one) for one in paper]
        assert all(sum(x * z for x, z in zip(y, column)).denominator == 1 for column in zip(*a))
        assert sum(x * z for x, z in zip(y, b)).denominator != 1


def judge_stairs(claim, paper):
    _, a, steps = claim
    up, down = paper
    for told_sums, some, wanted in ((up, a, steps), (down, steps, a)):
        assert isinstance(told_sums, tuple) and len(told_sums) == len(wanted)
        for factors, row in zip(told_sums, wanted):
            assert integers(factors, len(some))
            assert tuple(sum(f * line[j] for f, line in zip(factors, some)) for j in range(len(row))) == row


def judge_steps(claim, paper):
    _, a, steps = claim
    assert isinstance(paper, tuple) and len(paper) == len(steps)
    whole = 1
    for k, (step, triples) in enumerate(zip(steps, paper), 1):
        whole *= step
        made_sum = 0
        assert isinstance(triples, tuple)
        for lines, columns, weight in triples:
            for indices, bound in ((lines, len(a)), (columns, len(a[0]))):
                assert integers(indices, k) and ascending(indices) and all(0 <= i < bound for i in indices)
            assert integer(weight)
            made_sum += weight * determinant([tuple(a[i][j] for j in columns) for i in lines])
        assert made_sum == whole and all(one % whole == 0 for one in table_parts(a, k))
    assert not any(table_parts(a, len(steps) + 1))


def judge_unsplit(claim, paper):
    if claim[1] == 0:
        judge_unsplit_fraction(CASE, claim[2], paper)
    else:
        judge_unsplit_modulo(CASE, claim[1], claim[2], paper)


def judge_every_part(claim, paper):
    judge_parts(CASE, claim, paper, lambda case, part, shown: judge_unsplit(("unsplit", claim[1], part), shown))


def judge_chain(claim, paper):
    judge_roots(CASE, *claim[1:], paper)


def judge_one(claim, paper):
    judge_alone(CASE, *claim[1:], paper)


def judge_forms(judge):
    """A judge of forms, whose claims are to be well made wherever they stand."""
    def judged(claim, paper):
        assert is_made(claim) and bounded(paper)
        judge(CASE, claim, paper)
    return judged


def bounded(paper):
    """Whether no exponents in forms are too great."""
    if isinstance(paper, dict):
        return all(isinstance(key, tuple) and all(integer(x, 0, MOST) for x in key) for key in paper)
    return not isinstance(paper, tuple) or all(bounded(member) for member in paper)


def at(p, f, m, values):
    """What a form is at a point."""
    result = ()
    for key, told_number in f.items():
        part = (told_number,)
        for value, exponent in zip(values, key):
            for _ in range(exponent):
                part = rest(p, poly_times(p, part, value), m)
        result = poly_plus(p, result, part)
    return rest(p, result, m)


def judge_point(claim, paper):
    _, p, k, zeros, others = claim
    m, values, undoings = paper
    assert monic(p, m, 1) and isinstance(values, tuple) and isinstance(undoings, tuple)
    assert len(values) == k and len(undoings) == len(others)
    assert all(poly(p, one) and len(one) < len(m) for one in values + undoings)
    assert all(at(p, zero, m, values) == () for zero in zeros)
    for other, undoing in zip(others, undoings):
        assert rest(p, poly_times(p, undoing, at(p, other, m, values)), m) == made(p, [1])


def judge_no_point(claim, paper):
    _, p, k, zeros, others = claim
    many, multiples = paper
    assert integer(many, 0, MOST) and forms(p, k, multiples, len(zeros))
    if many:
        room = 1
        for at_letter in range(k):
            spread = sum(max(key[at_letter] for key in other) - min(key[at_letter] for key in other)
                         for other in others if other)
            room *= 1 + (many * spread if p else spread)
        assert room <= 10 ** 5
    whole = term(p, (0,) * k)
    for other in others:
        whole = times(p, whole, other)
    assert mixed(p, multiples, zeros) == power(p, k, whole, many)


def told_cases(value, turned=False):
    """The cases of a wish, by the rules of "not", "and" and "or"."""
    if value[0] == "is":
        return [((), (value[1],))] if turned else [((value[1],), ())]
    if value[0] == "not":
        return told_cases(value[1], not turned)
    lots = [told_cases(member, turned) for member in value[1:]]
    if (value[0] == "or") != turned:
        return [case for lot in lots for case in lot]
    return [(tuple(f for zeros, _ in row for f in zeros), tuple(f for _, others in row for f in others))
            for row in product(*lots)]


def judge_wish(claim, paper):
    kind, k, told_wish = claim
    cases = told_cases(told_wish)
    if kind == "happens":
        case, *point = paper
        assert integer(case, 0, len(cases) - 1)
        judge_point(("point", 0, k) + cases[case], tuple(point))
    else:
        assert isinstance(paper, tuple) and len(paper) == len(cases)
        for case, shown in zip(cases, paper):
            judge_no_point(("no point", 0, k) + case, shown)


def judge_alike(claim, paper):
    kind, k, one, other = claim
    sides = (("and", one, ("not", other)), ("and", other, ("not", one)))
    if kind == "alike":
        assert isinstance(paper, tuple) and len(paper) == 2
        for side, shown in zip(sides, paper):
            judge_wish(("never", k, side), shown)
    else:
        side, shown = paper
        assert integer(side, 0, 1)
        judge_wish(("happens", k, sides[side]), shown)


def fractions(value):
    return [[Fraction(*x) for x in row] for row in value]


def matrix(one, other):
    return [[sum(x * y for x, y in zip(row, column)) for column in zip(*other)] for row in one]


def trace_rows(products, letters, f):
    """The trace table of a form, made of the tables of the letters alone."""
    n = len(products)

    def table_of(key):
        result = [[Fraction(i == j) for j in range(n)] for i in range(n)]
        for letter, exponent in zip(letters, key):
            for _ in range(exponent):
                result = matrix(result, letter)
        return result
    whole = [[Fraction(0)] * n for _ in range(n)]
    for key, told_number in f.items():
        part = table_of(key)
        whole = [[x + Fraction(*told_number) * y for x, y in zip(*both)] for both in zip(whole, part)]
    known = [table_of(key) for key in products]
    found = []
    for one in known:
        left = matrix(whole, one)
        found.append([sum(sum(left[i][j] * other[j][i] for j in range(n)) for i in range(n)) for other in known])
    return found


def told_signs(change, undoing, trace):
    n = len(trace)
    for one in (change, undoing):
        assert isinstance(one, tuple) and len(one) == n and all(vector(0, row, n) for row in one)
    rows_there, back = fractions(change), fractions(undoing)
    unit = [[Fraction(i == j) for j in range(n)] for i in range(n)]
    assert n == 0 or matrix(rows_there, back) == unit
    made_rows = matrix(matrix(rows_there, trace), list(zip(*rows_there))) if n else []
    assert all(made_rows[i][j] == 0 for i in range(n) for j in range(n) if i != j)
    return sum(made_rows[i][i] > 0 for i in range(n)), sum(made_rows[i][i] < 0 for i in range(n))


def judge_counts(claim, paper):
    kind, k, told_forms = claim[:3]
    products, told_tables, shown, first, second = paper
    tables_claim = ("tables", 0, k, told_forms, products, told_tables)
    judge_forms(judge_tables)(tables_claim, shown)
    letters = [fractions(one) for one in told_tables]
    if kind == "signed points":
        f = claim[3]
        (m, l), (n, o) = (told_signs(*pair, trace_rows(products, letters, one))
                          for pair, one in ((first, f), (second, times(0, f, f))))
        assert len(first) == len(second) == 2
        assert ((n - o) + (m - l), (n - o) - (m - l)) == (2 * claim[4], 2 * claim[5])
    else:
        more, less = told_signs(first, second, trace_rows(products, letters, {(0,) * k: (1, 1)}))
        assert claim[3] == (more + less if kind == "complex points" else more - less)


def put_letters(k, f, letters):
    result = {}
    for key, told_number in f.items():
        part = {(0,) * k: told_number}
        for letter, exponent in zip(letters, key):
            part = times(0, part, power(0, k, letter, exponent))
        result = plus(0, result, part)
    return result


def unit_key(k, index):
    return tuple(int(i == index) for i in range(k))


def cut(f, many):
    return {key: f[key] for key in f if sum(key[1:]) < many}


def divides(part, whole):
    """Whether a form in which the highest power of a stands alone divides another one, by powers of a."""
    top = max(key[0] for key in part)
    left = whole
    while left and max(key[0] for key in left) >= top:
        high = max(key[0] for key in left)
        share = {(key[0] - top,) + key[1:]: left[key] for key in left if key[0] == high}
        left = plus(0, left, times(0, share, part), -1)
    return not left


def judge_parted_form(claim, paper):
    kind, k, f = claim
    if kind == "parted form":
        g, h = paper
        assert isinstance(paper, tuple) and part_form(k, g) and part_form(k, h) and times(0, g, h) == f
        return
    shifts, point, parts, papers, lifted = paper
    assert integers(shifts, k - 1) and integers(point, k - 1)
    n = degree(f)
    a = {unit_key(k, 0): (1, 1)}
    letters = [a] + [plus(0, {unit_key(k, i + 1): (1, 1)}, times(0, a, term(0, (0,) * k, shift)))
                     for i, shift in enumerate(shifts)]
    g = put_letters(k, f, letters)
    front = g.get((n,) + (0,) * (k - 1))
    assert front is not None
    g = times(0, g, {(0,) * k: told(0, 1 / Fraction(*front))})
    letters = [a] + [plus(0, {unit_key(k, i + 1): (1, 1)}, term(0, (0,) * k, step)) for i, step in enumerate(point)]
    g = put_letters(k, g, letters)
    image = tuple(g.get((i,) + (0,) * (k - 1), (0, 1)) for i in range(n + 1))
    assert isinstance(parts, tuple) and 1 <= len(parts) <= 12 and all(monic(0, part, 1) for part in parts)
    assert len(set(parts)) == len(parts) and poly_times(0, *parts) == image
    assert isinstance(papers, tuple) and len(papers) == len(parts)
    for part, shown in zip(parts, papers):
        judge_unsplit(("unsplit", 0, part), shown)
    assert forms(0, k, lifted, len(parts))
    whole = term(0, (0,) * k)
    for part, lift in zip(parts, lifted):
        assert tuple(lift.get((i,) + (0,) * (k - 1), (0, 1)) for i in range(len(part))) == part
        assert max(key[0] for key in lift) == len(part) - 1 and cut(lift, n) == lift
        assert [key for key in lift if key[0] == len(part) - 1] == [(len(part) - 1,) + (0,) * (k - 1)]
        whole = cut(times(0, whole, lift), n)
    assert whole == cut(g, n)
    for many in range(1, len(parts) // 2 + 1):
        for lot in combinations(lifted, many):
            tried = term(0, (0,) * k)
            for lift in lot:
                tried = cut(times(0, tried, lift), n)
            assert not divides(tried, g)


def judge_form_parts(claim, paper):
    assert isinstance(paper, tuple) and len(paper) == len(claim[4])
    for (part, _), shown in zip(claim[4], paper):
        judge_parted_form(("unsplit form", claim[1], part), shown)


def vectors(value):
    return [x for row in value for x in row]


def numbers_of(value):
    """All numbers of forms, or of polys, in a value made of tuples of them."""
    if isinstance(value, dict):
        return list(value.values())
    if isinstance(value, tuple) and len(value) == 2 and all(integer(x) for x in value):
        return [value]
    return [x for member in value for x in numbers_of(member)]


def told_bottoms(claim, paper):
    """The bottoms of [17.3]."""
    kind, members = claim[0], claim[2:]
    found = {
        "barred": lambda: vectors(members[0]) + list(members[1]) + list(paper),
        "solved": lambda: vectors(members[0]) + list(members[1]) + list(paper),
        "rank": lambda: vectors(members[0]) + vectors(paper[2]) + vectors(paper[3]),
        "common": lambda: vectors(members) + vectors(paper),
        "parted": lambda: vectors(members) + vectors(paper),
        "basis": lambda: numbers_of(members[2:]) + numbers_of(paper),
        "within": lambda: numbers_of(members[1:]) + numbers_of(paper),
        "same lot": lambda: numbers_of(members[1:]) + numbers_of(paper),
        "point": lambda: numbers_of(members[1:]) + list(paper[0]) + vectors(paper[1]) + vectors(paper[2]),
        "no point": lambda: numbers_of(members[1:]) + numbers_of(paper[1]),
    }[kind]()
    bottoms = [bottom for _, bottom in found]
    return bottoms + ([abs(members[0][-1][0])] if kind == "parted" else [])


def judge_all_primes(claim, paper):
    _, inner, n = claim
    assert is_paper(inner, paper)
    for bottom in told_bottoms(inner, paper):
        while gcd(bottom, n) > 1:
            bottom //= gcd(bottom, n)
        assert bottom == 1


def by_case(judge):
    return lambda claim, paper: judge(CASE, claim, paper)


def judge_basis_claim(case, claim, paper):
    judge_basis(case, *claim[1:], paper)


JUDGES = {
    "divisor": judge_divisor, "rests": judge_rests, "prime": judge_prime, "prime parts": judge_prime_parts,
    "solved": by_case(judge_solved), "rank": by_case(judge_rank), "whole": judge_whole, "stairs": judge_stairs,
    "steps": judge_steps, "reached": by_case(judge_wishes), "greatest": by_case(judge_wishes),
    "no greatest": by_case(judge_wishes), "common": by_case(judge_common), "mixed": by_case(judge_mixed),
    "joined": by_case(judge_joined), "square parts": by_case(judge_square), "resultant": by_case(judge_resultant),
    "unsplit": judge_unsplit, "parted": by_case(judge_parted), "parts": judge_every_part, "roots": judge_chain,
    "alone": judge_one, "sign": by_case(judge_sign), "root order": by_case(judge_order),
    "basis": judge_forms(judge_basis_claim), "within": judge_forms(judge_within), "same lot": judge_forms(judge_lots),
    "meet": judge_forms(judge_meet), "quotient": judge_forms(judge_quotient),
    "taken out": judge_forms(judge_taken_out), "free": judge_forms(judge_free), "finite": judge_forms(judge_finite),
    "endless": judge_forms(judge_finite), "tables": judge_forms(judge_tables),
    "least poly": judge_forms(judge_least_poly), "point": judge_point, "no point": judge_no_point,
    "happens": judge_wish, "alike": judge_alike, "complex points": judge_counts, "signed points": judge_counts,
    "parted form": judge_parted_form, "form parts": judge_form_parts, "all primes but": judge_all_primes,
}


def is_paper(claim, paper):
    """Whether the value is a paper for the claim."""
    if not is_made(claim) or not is_strict(paper) or not has_forms(claim) and has_dicts(paper):
        return False
    judge = JUDGES.get(claim[0]) or JUDGES[LIKE[claim[0]]]
    try:
        judge(claim, paper)
    except (AssertionError, TypeError, ValueError, IndexError, KeyError, AttributeError, ZeroDivisionError):
        # Members of a wrong kind, or too few of them, are found so.
        return False
    return True
