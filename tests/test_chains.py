"""Stage 9: real roots."""
import random
from fractions import Fraction

from helping import BIG, HALF, ODD, ONE, TWO, ZERO, Case, is_number, told
from polys import are_polys, common, made, plus, poly_rule, random_poly, slope, times

from zeroorone import errors
from zeroorone.letter.chains import alone_answer, root_order_answer, root_stretches, roots_answer, sign_answer

SQUARE_TWO = ((-2, 1), (0, 1), (1, 1))
SQUARE_THREE = ((-3, 1), (0, 1), (1, 1))
TWICE, CUBIC = ((1, 1), (-1, 1), (-1, 1), (1, 1)), ((0, 1), (-1, 1), (0, 1), (1, 1))
POLY = (errors.InvalidPoly, None, lambda value: value != () and poly_rule(0)[2](value))
OTHER = (errors.InvalidPoly, None, poly_rule(0)[2])
END = (errors.InvalidNumber, "given", lambda value: value is None or is_number(0, value))


def fraction(number):
    return Fraction(*number)


def at(poly, number):
    return sum(fraction(part) * number ** k for k, part in enumerate(poly))


def sign(number):
    return (number > 0) - (number < 0)


def far_sign(poly, end, far):
    """The sign at an end, by [9.2]."""
    if end is None:
        return sign(fraction(poly[-1])) * (far if len(poly) % 2 == 0 else 1)
    return sign(at(poly, fraction(end)))


def changes(row, end, far):
    signs = [far_sign(poly, end, far) for poly in row]
    kept = [one for one in signs if one]
    return sum(1 for one, other in zip(kept, kept[1:]) if one != other)


def judge_roots(case, f, low, high, n, paper):
    """[9.1] and the first row of the table."""
    case.assertTrue(all(end is None or is_number(0, end, None) for end in (low, high)))
    if low is not None and high is not None:
        case.assertLess(fraction(low), fraction(high))
    if len(f) == 1:
        case.assertEqual((n, paper), (0, ()))
        return
    h, row, steps = paper
    case.assertTrue(are_polys(0, (h,) + row) and isinstance(row, tuple) and len(row) >= 2 and () not in row)
    case.assertEqual(len(row[-1]), 1)
    case.assertEqual((times(0, h, row[0]), times(0, h, row[1])), (f, slope(0, f)))
    case.assertEqual(len(steps), len(row) - 2)
    for i, (e, q, d) in enumerate(steps, 1):
        case.assertTrue(is_number(0, e, None) and is_number(0, d, None) and e[0] > 0 and d[0] > 0 and are_polys(0, (q,)))
        case.assertEqual(times(0, (e,), row[i - 1]),
                         plus(0, times(0, q, row[i]), times(0, (d,), row[i + 1]), -1))
    case.assertEqual(changes(row, low, -1) - changes(row, high, 1), n)


def judge_alone(case, f, low, high, paper):
    judge_roots(case, f, low, high, 1, paper)


def judge_common(case, f, g, low, high, told_paper):
    h, u, v, part = told_paper
    case.assertTrue(are_polys(0, (h, u, v)))
    case.assertEqual((times(0, h, u), times(0, h, v)), (f, g))
    judge_alone(case, h, low, high, part)


def judge_sign(case, claim, paper):
    kind, f, g, a, b, s = claim
    case.assertEqual(kind, "sign")
    judge_alone(case, f, a, b, paper[0])
    if s == 0:
        judge_common(case, f, g, a, b, paper[1:])
        return
    _, c, d, here, clear = paper
    case.assertTrue(a is None or c is not None and fraction(a) <= fraction(c))
    case.assertTrue(b is None or d is not None and fraction(d) <= fraction(b))
    judge_alone(case, f, c, d, here)
    judge_roots(case, g, c, d, 0, clear)
    case.assertEqual(far_sign(g, d, 1), s)


def meeting(a, b, c, d):
    lows = [fraction(end) for end in (a, c) if end is not None]
    highs = [fraction(end) for end in (b, d) if end is not None]
    return told(0, max(lows)) if lows else None, told(0, min(highs)) if highs else None


def judge_order(case, claim, paper):
    kind, f, a, b, g, c, d, s = claim
    case.assertEqual(kind, "root order")
    if s == 1:
        judge_order(case, (kind, g, c, d, f, a, b, -1), paper)
        return
    judge_alone(case, f, a, b, paper[0])
    judge_alone(case, g, c, d, paper[1])
    if s == 0:
        judge_common(case, f, g, *meeting(a, b, c, d), paper[2:])
        return
    case.assertEqual(s, -1)
    e, first, second = paper[2:]
    case.assertTrue(is_number(0, e, None))
    if first != () or b is None or fraction(e) < fraction(b):
        judge_alone(case, f, a, e, first)
    if second != () or c is None or fraction(e) > fraction(c):
        judge_roots(case, g, c, e, 0, second)


def with_roots(*roots):
    return times(0, *[made(0, [-Fraction(root), 1]) for root in roots])


def count(roots, low, high):
    return len({root for root in roots if (low is None or root > fraction(low))
                and (high is None or root <= fraction(high))})


class Examples(Case):
    def test_examples(self):
        self.assertEqual(roots_answer(SQUARE_TWO, ZERO, None)[0][-1], 1)
        self.assertEqual(roots_answer(TWICE, (-1, 1), ONE)[0][-1], 1)
        self.assertEqual(root_stretches(CUBIC), (((-2, 1), (-1, 1)), ((-1, 1), (0, 1)), ((0, 1), (2, 1))))
        self.assertEqual(sign_answer(SQUARE_TWO, ((-1, 1), (1, 1)), ZERO, None)[0][-1], 1)
        self.assertEqual(root_order_answer(SQUARE_TWO, ZERO, None, SQUARE_THREE, ZERO, None)[0][-1], -1)
        self.assertEqual(self.refuses(errors.Refused, alone_answer, SQUARE_TWO, None, None).reason, ("roots", 2))

    def test_the_told_chain(self):
        chain = (((1, 1),), (SQUARE_TWO, ((0, 1), (2, 1)), ((2, 1),)), (((1, 1), ((0, 1), (1, 2)), (1, 1)),))
        judge_roots(self, SQUARE_TWO, ZERO, None, 1, chain)

    def test_alike_signs_and_a_root(self):
        # [9.6]
        self.assertEqual(roots_answer(with_roots(0, 0), (-1, 1), ONE)[0][-1], 1)


class Refusals(Case):
    def test_refusals(self):
        good = (SQUARE_TWO, ZERO, TWO)
        self.check_refusals(roots_answer, good, (POLY, END, END))
        self.check_refusals(alone_answer, good, (POLY, END, END))
        self.check_refusals(sign_answer, (SQUARE_TWO, (ONE,), ZERO, TWO), (POLY, OTHER, END, END))
        self.check_refusals(root_order_answer, good + good, (POLY, END, END, POLY, END, END))
        self.check_refusals(root_stretches, (SQUARE_TWO,), (POLY,))

    def test_bounds(self):
        top = (ZERO,) * 12 + (ONE,)
        self.assertEqual(roots_answer(top, None, None)[0][-1], 1)
        for call, rest in ((roots_answer, (None, None)), (alone_answer, (None, None)), (root_stretches, ()),
                           (sign_answer, ((ONE,), None, None)), (root_order_answer, (None,) * 5)):
            for wrong in ((ZERO,) + top, (), (ONE, ZERO), (1, 1), [ONE], ((True, 1),), ((BIG + 1, 1),)):
                self.refuses(errors.InvalidPoly, call, wrong, *rest)
        for wrong in (1, (2, 2), (1, 0), [1, 1], (True, 1), (BIG + 1, 1), "None"):
            self.assertEqual(self.refuses(errors.InvalidNumber, roots_answer, SQUARE_TWO, wrong, 1).given, wrong)
            self.assertEqual(self.refuses(errors.InvalidNumber, roots_answer, SQUARE_TWO, ONE, wrong).given, wrong)
        self.assertEqual(roots_answer(SQUARE_TWO, (-BIG, 1), (BIG, BIG - 1))[0][-1], 1)
        self.refuses(errors.InvalidPoly, sign_answer, SQUARE_TWO, (ZERO,), 1, 1)
        self.refuses(errors.InvalidPoly, root_order_answer, SQUARE_TWO, None, None, (), 1, 1)

    def test_sequence_of_errors(self):
        # Ends come behind all parameters, and ahead of the number of roots.
        for low, high in ((ONE, ONE), (TWO, ONE), (ONE, HALF)):
            for call in (roots_answer, alone_answer):
                self.refuses(errors.InvalidOperation, call, SQUARE_TWO, low, high)
                self.refuses(errors.InvalidOperation, call, (ONE,), low, high)
            self.refuses(errors.InvalidOperation, sign_answer, (ONE,), (), low, high)
            self.refuses(errors.InvalidOperation, root_order_answer, (ONE,), low, high, SQUARE_TWO, None, None)
            self.refuses(errors.InvalidOperation, root_order_answer, (ONE,), None, None, SQUARE_TWO, low, high)
            self.refuses(errors.InvalidNumber, root_order_answer, SQUARE_TWO, low, high, SQUARE_TWO, 1, high)
            self.refuses(errors.InvalidPoly, root_order_answer, SQUARE_TWO, low, high, (), 1, high)

    def test_not_just_one_root(self):
        for poly, low, high, many in ((SQUARE_TWO, None, None, 2), ((ONE,), None, None, 0), (CUBIC, (-1, 1), ONE, 2),
                                      (CUBIC, (-2, 1), ONE, 3), (CUBIC, ONE, None, 0), (TWICE, None, None, 2)):
            for call, args in ((alone_answer, (poly, low, high)), (sign_answer, (poly, (), low, high)),
                               (root_order_answer, (poly, low, high, (ONE,), None, None)),
                               (root_order_answer, (SQUARE_TWO, ZERO, None, poly, low, high))):
                self.assertEqual(self.refuses(errors.Refused, call, *args).reason, ("roots", many))


class Roots(Case):
    def check(self, f, low, high, many):
        claim, paper = roots_answer(f, low, high)
        self.assertEqual(claim, ("roots", f, low, high, many))
        judge_roots(self, f, low, high, many, paper)
        if many == 1:
            claim, paper = alone_answer(f, low, high)
            self.assertEqual(claim, ("alone", f, low, high))
            judge_alone(self, f, low, high, paper)

    def test_known_roots(self):
        source = random.Random(91)
        for _ in range(40):
            roots = [Fraction(source.randint(-6, 6), source.choice((1, 1, 2))) for _ in range(source.randint(0, 5))]
            f = times(0, with_roots(*roots, *roots[:2]), made(0, [source.choice((-3, 1, 2))]),
                      source.choice((made(0, [1]), made(0, [1, 0, 1]), made(0, [1, 1, 1]))))
            ends = [None] + [told(0, x) for x in sorted({*roots, *[root + HALF_STEP for root in roots], Fraction(7)})]
            for _ in range(6):
                i, j = sorted(source.sample(range(len(ends)), 2)) if len(ends) > 1 else (0, 0)
                for low, high in ((ends[i], ends[j] if j else None), (ends[j], None), (None, ends[j])):
                    if low is None or high is None or fraction(low) < fraction(high):
                        self.check(f, low, high, count(roots, low, high))

    def test_degree_0(self):
        for f in ((ONE,), ((-2, 3),)):
            self.check(f, None, None, 0)
            self.check(f, ZERO, ONE, 0)
            self.assertEqual(root_stretches(f), ())

    def test_roots_at_ends(self):
        self.check(CUBIC, (-1, 1), ZERO, 1)
        self.check(CUBIC, (-1, 1), ONE, 2)
        self.check(CUBIC, None, (-1, 1), 1)
        self.check(CUBIC, ONE, None, 0)
        self.check(((0, 1), (1, 1)), ZERO, None, 0)
        self.check(((0, 1), (1, 1)), None, ZERO, 1)

    def test_long_integers(self):
        source = random.Random(92)
        f = tuple(told(0, Fraction(source.randint(-BIG, BIG), source.randint(1, BIG))) for _ in range(7))
        claim, paper = roots_answer(f, None, None)
        judge_roots(self, f, None, None, claim[-1], paper)

    def test_roots_near_one_another(self):
        near = Fraction(1, 10 ** 30)
        f = with_roots(1, 1 + near)
        self.check(f, None, None, 2)
        self.check(f, ONE, TWO, 1)
        self.check(f, HALF, ONE, 1)


HALF_STEP = Fraction(1, 3)


class Signs(Case):
    def check(self, f, g, low, high, wanted):
        claim, paper = sign_answer(f, g, low, high)
        self.assertEqual(claim, ("sign", f, g, low, high, wanted))
        judge_sign(self, claim, paper)

    def test_known_signs(self):
        source = random.Random(93)
        for _ in range(40):
            roots = sorted({Fraction(source.randint(-6, 6), source.choice((1, 2))) for _ in range(3)})
            f = times(0, with_roots(*roots), source.choice((made(0, [1]), with_roots(roots[0]), made(0, [2, 0, 1]))))
            g = times(0, random_poly(source, 0, source.randint(0, 2)), with_roots(*roots[:source.randint(0, 1)]))
            for k, root in enumerate(roots):
                low = told(0, roots[k - 1]) if k else None
                high = source.choice((told(0, root), told(0, root + Fraction(1, 4)))) if k < len(roots) - 1 else None
                self.check(f, g, low, high, sign(at(g, root)))
                self.check(f, (), low, high, 0)

    def test_roots_that_are_no_fractions(self):
        for g, wanted in ((SQUARE_TWO, 0), (SQUARE_THREE, -1), (made(0, [-1, 1]), 1), (made(0, [-2]), -1),
                          (times(0, SQUARE_TWO, SQUARE_THREE), 0), (made(0, [Fraction(-1414213562, 10 ** 9), 1]), 1),
                          (made(0, [Fraction(-1414213563, 10 ** 9), 1]), -1), (with_roots(1, 1, 1), 1),
                          (made(0, [0, 0, 0, 0, 1]), 1)):
            self.check(SQUARE_TWO, g, ZERO, None, wanted)
            self.check(SQUARE_TWO, g, ZERO, (5, 1), wanted)
            self.check(times(0, SQUARE_TWO, SQUARE_TWO), g, ONE, (3, 2), wanted)

    def test_roots_near_the_bound_of_all(self):
        self.check(with_roots(3), with_roots(5), None, None, -1)
        self.check(with_roots(-3), with_roots(-5), None, None, 1)
        self.check(with_roots(-3), with_roots(-5), None, ONE, 1)
        self.check(with_roots(7, 1), with_roots(8, 6), TWO, None, -1)

    def test_a_root_beside_a_root(self):
        # The other poly has roots on both sides of the end of the stretch.
        near = Fraction(1, 10 ** 12)
        self.check(with_roots(1), with_roots(1 + near, 1 - near), None, ONE, -1)
        self.check(with_roots(1), with_roots(1 + near, 1 - near), None, None, -1)
        self.check(with_roots(1, 2), with_roots(1, 1 - near), ONE, None, 1)
        # A root in common, but not there.
        self.check(with_roots(1, 2), with_roots(1, 3), ONE, None, -1)


class Orders(Case):
    def check(self, one, low, high, other, start, stop, wanted):
        for claim, paper, told_sign in ((*root_order_answer(one, low, high, other, start, stop), wanted),
                                        (*root_order_answer(other, start, stop, one, low, high), -wanted)):
            self.assertEqual(claim[-1], told_sign)
            judge_order(self, claim, paper)
        self.assertEqual(claim[:-1], ("root order", other, start, stop, one, low, high))

    def test_known_orders(self):
        source = random.Random(94)
        for _ in range(60):
            first = sorted({Fraction(source.randint(-4, 4), source.choice((1, 2))) for _ in range(3)})
            second = sorted({Fraction(source.randint(-4, 4), source.choice((1, 2))) for _ in range(3)})
            k, j = source.randrange(len(first)), source.randrange(len(second))
            f, g = with_roots(*first, first[0]), with_roots(*second)
            ends = []
            for roots, at_root in ((first, k), (second, j)):
                ends.append(told(0, roots[at_root - 1]) if at_root else None)
                last = at_root == len(roots) - 1
                ends.append(None if last and source.random() < 0.7 else told(0, roots[at_root]))
            self.check(f, ends[0], ends[1], g, ends[2], ends[3], sign(first[k] - second[j]))

    def test_roots_that_are_no_fractions(self):
        both = times(0, SQUARE_TWO, SQUARE_THREE)
        self.check(SQUARE_TWO, ZERO, None, SQUARE_THREE, ZERO, None, -1)
        self.check(SQUARE_TWO, None, ZERO, SQUARE_TWO, ZERO, None, -1)
        self.check(SQUARE_TWO, ZERO, None, both, ZERO, (3, 2), 0)
        self.check(SQUARE_TWO, ONE, None, both, (3, 2), None, -1)
        self.check(SQUARE_TWO, ZERO, None, made(0, [Fraction(-1414213562373095, 10 ** 15), 1]), None, None, 1)
        # Stretches with nothing in common, one beside the other, and equal roots told by unlike stretches.
        self.check(SQUARE_TWO, ONE, (3, 2), SQUARE_THREE, (3, 2), TWO, -1)
        self.check(with_roots(1), ZERO, ONE, with_roots(1, 2), None, ONE, 0)
        self.check(with_roots(1), ZERO, ONE, with_roots(1, 2), ONE, TWO, -1)

    def test_roots_near_the_bound_of_all(self):
        self.check(with_roots(3), None, None, with_roots(5), None, None, -1)
        self.check(with_roots(-3), None, None, with_roots(-5), None, None, 1)
        self.check(with_roots(7), None, None, with_roots(6, 8), None, (7, 1), 1)

    def test_near_roots(self):
        near = Fraction(1, 10 ** 40)
        self.check(with_roots(1), None, None, with_roots(1 + near), None, None, -1)
        self.check(with_roots(1, 1), ZERO, ONE, with_roots(1 + near, 5), ONE, TWO, -1)


class Stretches(Case):
    def bound(self, f):
        wanted = 1 + max(abs(fraction(x)) for x in f[:-1]) / abs(fraction(f[-1]))
        bound = 1
        while bound < wanted:
            bound *= 2
        return Fraction(bound)

    def halved(self, f, low, high):
        many = roots_answer(f, told(0, low), told(0, high))[0][-1]
        if many < 2:
            return [(told(0, low), told(0, high))] * many
        half = (low + high) / 2
        return self.halved(f, low, half) + self.halved(f, half, high)

    def test_as_told(self):
        source = random.Random(95)
        polys = [random_poly(source, 0, source.randint(1, 6), 20) for _ in range(30)]
        polys += [with_roots(0), with_roots(0, 0), with_roots(1, 1, 2), with_roots(Fraction(1, 3), Fraction(1, 4)),
                  times(0, SQUARE_TWO, SQUARE_THREE), made(0, [1, 0, 1]), with_roots(*range(-6, 6))]
        for f in polys:
            found = root_stretches(f)
            bound = self.bound(f)
            self.assertEqual(list(found), self.halved(f, -bound, bound))
            self.assertEqual(len(found), roots_answer(f, None, None)[0][-1])
            ends = [fraction(end) for stretch in found for end in stretch]
            self.assertEqual(ends, sorted(ends))
            for low, high in found:
                alone_answer(f, low, high)

    def test_bounds(self):
        self.assertEqual(root_stretches(with_roots(0)), (((-1, 1), (1, 1)),))
        self.assertEqual(root_stretches(made(0, [-1, 1])), (((-2, 1), (2, 1)),))
        self.assertEqual(root_stretches(made(0, [-1, Fraction(1, 3)])), (((-4, 1), (4, 1)),))
        self.assertEqual(root_stretches(made(0, [-4, Fraction(1, 1)])), (((-8, 1), (8, 1)),))

    def test_common_parts_do_not_matter(self):
        f = with_roots(1, 1, 1, 2, 2)
        self.assertEqual(common(0, f, slope(0, f)), with_roots(1, 1, 2))
        self.assertEqual(len(root_stretches(f)), 2)

    def test_odd_values(self):
        for wrong in ODD:
            if not POLY[2](wrong):
                self.refuses(errors.InvalidPoly, root_stretches, wrong)
