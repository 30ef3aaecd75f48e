"""Stage 14: points, and wishes of equations."""
import random
from fractions import Fraction
from itertools import product

from forms import closed, form_rule, is_ascending, mixed, plus, power, random_form, size_rule, term, times
from helping import BIG, HALF, LESS, ODD, ONE, TWO, ZERO, Case, told
from judging import at, is_paper, told_cases
from polys import common, made, plus as poly_plus, slope, times as poly_times, value as poly_value
from sampling import wish_of
from test_stairs import at as value_at

from zeroorone import errors
from zeroorone.paper.checker import takes
from zeroorone.points.points import all_points, alike_answer, at_point, cases, fraction_points, holds, is_wish
from zeroorone.points.points import point_answer, wish_answer
from zeroorone.points.stairs import standing, thinned

CIRCLE, LINE = {(2, 0): ONE, (0, 2): ONE, (0, 0): LESS}, {(1, 0): ONE, (0, 1): LESS}
A = {(1, 0): ONE}
WISH = ("and", ("or", ("is", CIRCLE), ("is", LINE)), ("not", ("is", A)))


def is_low(size, value, most=4):
    return form_rule(0, size)[2](value) and max([sum(key) for key in value], default=0) <= most


def low_rule(size):
    return (errors.InvalidForm, None, lambda value: is_low(size, value))


def tuple_rule(size, many):
    return (errors.InvalidForm, None, lambda value: isinstance(value, tuple) and len(value) <= many
            and all(is_low(size, one) for one in value))


def less_value(form, place):
    """The form that is 0 at the place, but for its number without letters like the form."""
    return plus(0, form, term(0, (0,) * len(place), -value_at(form, place)))


def holds_told(wish, place):
    if wish[0] == "is":
        return value_at(wish[1], place) == 0
    found = [holds_told(member, place) for member in wish[1:]]
    return not found[0] if wish[0] == "not" else all(found) if wish[0] == "and" else any(found)


def random_place(source, size):
    return tuple(Fraction(source.randint(-3, 3), source.choice((1, 1, 2, 3))) for _ in range(size))


class Examples(Case):
    def test_examples(self):
        self.assertEqual([point_answer(2, (LINE,), (LINE,))[0][0],
                          fraction_points(1, ({(2,): ONE, (0,): (-1, 4)},))], ["no point", (((-1, 2),), (HALF,))])
        self.assertEqual([cases(2, WISH) == (((CIRCLE,), (A,)), ((LINE,), (A,))), len(cases(2, ("not", WISH))),
                          holds(2, WISH, (ONE, ONE))], [True, 2, True])
        self.assertEqual([wish_answer(2, WISH)[0][0], alike_answer(2, ("not", ("not", WISH)), WISH)[0][0]],
                         ["happens", "alike"])
        self.assertEqual(self.refuses(errors.Refused, fraction_points, 2, (LINE,)).reason, ("endless",))

    def test_not_true(self):
        # [14.6]: a wish that holds at no place of fractions, but happens.
        wish = ("is", {(2,): ONE, (0,): (-2, 1)})
        self.assertEqual(fraction_points(1, (wish[1],)), ())
        self.assertEqual(wish_answer(1, wish)[0][0], "happens")
        self.assertEqual(wish_answer(1, ("is", {(2,): ONE, (0,): ONE}))[0][0], "happens")


class Refusals(Case):
    def test_refusals(self):
        zeros, others, wish = (CIRCLE, LINE), (A,), ("is", LINE)
        self.check_refusals(point_answer, (2, zeros, others), (size_rule(), tuple_rule(2, 6), tuple_rule(2, 3)))
        for call in (all_points, fraction_points):
            self.check_refusals(call, (2, zeros), (size_rule(), tuple_rule(2, 6)))
        wishes = (errors.InvalidWish, None, lambda value: False)
        self.check_refusals(cases, (2, wish), (size_rule(), wishes))
        self.check_refusals(wish_answer, (2, wish), (size_rule(), wishes))
        self.check_refusals(alike_answer, (2, wish, wish), (size_rule(), wishes, wishes))
        place = (errors.InvalidTable, None, lambda value: isinstance(value, tuple) and len(value) == 2
                 and all(isinstance(x, tuple) and len(x) == 2 and x in ((0, 1), (1, 2)) for x in value))
        self.check_refusals(holds, (2, wish, (ZERO, HALF)), (size_rule(), wishes, place))
        modulus = (errors.InvalidPoly, None, lambda value: False)
        self.check_refusals(at_point, (2, LINE, (LESS, ONE), ((), ())), (
            size_rule(), low_rule(2), modulus, (errors.InvalidPoly, None, lambda value: value == ((), ()))))
        self.check_refusals(is_wish, (2, wish), (size_rule(),))

    def test_bounds(self):
        top = {(4,): ONE}
        self.assertEqual(point_answer(1, (top,) * 6, (top,) * 3)[0][0], "no point")
        self.assertEqual(point_answer(1, ({(0,): (BIG, 1)},), ())[0][0], "no point")
        for wrong in ((top,) * 7, [top], ({(5,): ONE},), ({(4,): (BIG + 1, 1)},), top, ({(4,): 1},), ({(True,): ONE},)):
            self.refuses(errors.InvalidForm, point_answer, 1, wrong, ())
            self.refuses(errors.InvalidForm, all_points, 1, wrong)
            self.refuses(errors.InvalidForm, point_answer, 1, (), wrong)
        self.refuses(errors.InvalidForm, point_answer, 1, (), (top,) * 4)
        # The first wrong argument is told.
        self.refuses(errors.InvalidNumber, point_answer, 4, 1, 1)
        self.refuses(errors.InvalidForm, point_answer, 3, 1, 1)
        self.refuses(errors.InvalidForm, fraction_points, 2, ({(1,): ONE},))

    def test_points_that_are_told_wrong(self):
        for m in ((), (ONE,), (ONE, TWO), (ONE, (1, 1), ZERO), (1, 1), [LESS, ONE], (LESS,) * 65 + (ONE,)):
            self.refuses(errors.InvalidPoly, at_point, 1, {(1,): ONE}, m, ((),))
        longest = (LESS,) + (ZERO,) * 63 + (ONE,)
        self.assertEqual(at_point(1, {(1,): ONE}, longest, ((ZERO,) * 63 + (ONE,),)), (ZERO,) * 63 + (ONE,))
        for values in ((), ((), ()), ((LESS, ONE),), [()], ([],), ((ZERO,),), (1,)):
            self.refuses(errors.InvalidPoly, at_point, 1, {(1,): ONE}, (LESS, ONE), values)
        long = (10 ** 90, 1)
        self.assertEqual(at_point(1, {(1,): TWO}, (long, ONE), ((long,),)), ((2 * 10 ** 90, 1),))

    def test_none_and_endless(self):
        self.assertEqual(self.refuses(errors.Refused, all_points, 1, ({(0,): ONE},)).reason, ("none",))
        self.assertEqual(self.refuses(errors.Refused, all_points, 2, (LINE,)).reason, ("endless",))
        self.assertEqual(self.refuses(errors.Refused, all_points, 1, ()).reason, ("endless",))
        self.assertEqual(self.refuses(errors.Refused, fraction_points, 1, ({},)).reason, ("endless",))
        self.assertEqual(fraction_points(2, (LINE, {(0, 0): TWO})), ())
        # A square that is -1 at endlessly many complex points.
        self.assertEqual(self.refuses(errors.Refused, fraction_points, 2, ({(2, 0): ONE, (0, 0): ONE},)).reason,
                         ("endless",))

    def test_wishes_that_are_none(self):
        form = {(1,): ONE}
        deep = ("is", form)
        for depth in range(2, 8):
            deep = ("not", deep)
            self.assertIs(is_wish(1, deep), depth <= 6)
        for word in ("and", "or"):
            for many in range(9):
                self.assertIs(is_wish(1, (word,) + (("is", form),) * many), 1 <= many <= 6)
        for wrong in ODD + [("is",), ("is", form, form), ("not",), ("not", ("is", form), ("is", form)), ["is", form],
                            ("is", {(5,): ONE}), ("is", {(1, 0): ONE}), ("is", {(1,): ZERO}), ("is", {(1,): 1}),
                            ("IS", form), ("xor", ("is", form)), ("and", form), ("and", [("is", form)]), form,
                            ("is", {(1,): (BIG + 1, 1)}), ("is", {(True,): ONE})]:
            self.assertIs(is_wish(1, wrong), False)
            self.refuses(errors.InvalidWish, wish_answer, 1, wrong)

    def test_too_many_cases(self):
        form = {(1,): ONE}
        two = ("or", ("is", form), ("is", {}))
        fits = ("and",) + (two,) * 5
        self.assertEqual(len(cases(1, fits)), 32)
        self.assertTrue(holds(1, fits, (ONE,)))
        great = ("or", fits, ("is", form))
        for call, args in ((cases, (great,)), (holds, (great, (ONE,))), (wish_answer, (great,)),
                           (alike_answer, (great, two)), (alike_answer, (two, great))):
            self.assertEqual(self.refuses(errors.TooMany, call, 1, *args).limit, 32)
        # The two wishes made of both have more cases than each of them.
        self.assertEqual(self.refuses(errors.TooMany, alike_answer, 1, fits, ("and", two, two)).limit, 32)
        self.refuses(errors.InvalidTable, holds, 1, great, (1,))
        self.refuses(errors.InvalidWish, alike_answer, 1, great, ("is",))


class Points(Case):
    def check(self, size, zeros, others, kind=None):
        claim, paper = point_answer(size, zeros, others)
        self.assertTrue(is_ascending((claim, paper)))
        self.assertEqual(claim[1:], (0, size, zeros, others))
        self.assertTrue(is_paper(claim, paper) and takes(claim, paper), (claim, paper))
        if kind is not None:
            self.assertEqual(claim[0], kind)
        return claim[0], paper

    def test_at_point(self):
        source = random.Random(1)
        for _ in range(60):
            size = source.randint(1, 3)
            form = random_form(source, 0, size, 4, 5)
            degree = source.randint(1, 3)
            m = tuple(told(0, source.randint(-3, 3)) for _ in range(degree)) + (ONE,)
            values = tuple(made(0, [source.randint(-3, 3) for _ in range(source.randint(0, degree))]) for _ in range(size))
            self.assertEqual(at_point(size, form, m, values), at(0, form, m, values))
        # With m of degree 1 it is the value at a place.
        self.assertEqual(at_point(2, CIRCLE, (ZERO, ONE), ((TWO,), (HALF,))), ((told(0, value_at(CIRCLE, (2, Fraction(1, 2)))),)))

    def test_points_of_fractions(self):
        source = random.Random(2)
        for _ in range(60):
            size = source.randint(1, 3)
            place = random_place(source, size)
            zeros = tuple(less_value(random_form(source, 0, size, source.randint(1, 4), 4), place)
                          for _ in range(source.randint(0, 4)))
            others = tuple(form for form in [random_form(source, 0, size, source.randint(0, 4), 3)
                                             for _ in range(source.randint(0, 3))] if value_at(form, place) != 0)
            self.check(size, zeros, others, "point")

    def test_points_of_a_square_root(self):
        source = random.Random(3)
        for _ in range(30):
            size = source.randint(1, 2)
            m = ((-source.choice((2, 3, -1)), 1), ZERO, ONE)
            values = tuple(made(0, [source.randint(-2, 2), source.randint(-2, 2)]) for _ in range(size))
            letter = term(0, tuple(1 if at_letter == 0 else 0 for at_letter in range(size)))
            zeros = []
            for _ in range(2):
                form = random_form(source, 0, size, 2, 3)
                # What the form is at the point, taken off by a poly in a letter that is the root there.
                there = at(0, form, m, values)
                first = values[0] + (ZERO,) * (2 - len(values[0]))
                if first[1] == ZERO:
                    break
                slope = Fraction(*there[1]) / Fraction(*first[1]) if len(there) > 1 else Fraction(0)
                start = (Fraction(*there[0]) if there else 0) - slope * Fraction(*first[0])
                form = plus(0, form, times(0, letter, term(0, (0,) * size, slope)), -1)
                form = plus(0, form, term(0, (0,) * size, start), -1)
                self.assertEqual(at(0, form, m, values), ())
                zeros.append(form)
            others = tuple(form for form in [random_form(source, 0, size, 2, 3) for _ in range(2)]
                           if at(0, form, m, values) != ())
            if zeros:
                self.check(size, tuple(zeros), others, "point")

    def test_powers_within(self):
        source = random.Random(4)
        tried = 0
        while tried < 40:
            size = source.randint(1, 3)
            others = tuple(random_form(source, 0, size, 1, 2, 3) for _ in range(source.randint(1, 2)))
            whole = term(0, (0,) * size)
            for other in others:
                whole = times(0, whole, other)
            form = power(0, size, whole, source.randint(1, 3))
            more = tuple(random_form(source, 0, size, 2, 3, 3) for _ in range(source.randint(0, 2)))
            form = plus(0, form, mixed(0, [random_form(source, 0, size, 1, 2, 2) for _ in more], more))
            if max([sum(key) for key in form], default=0) <= 4:
                self.check(size, (form,) + more, others, "no point")
                tried += 1

    def test_higher_powers(self):
        for zeros, others, many in (
            (({(4, 0): ONE}, {(0, 4): ONE}), ({(1, 0): ONE, (0, 1): ONE},), 7),
            (({(3, 0): ONE},), (A,), 3), (({(0, 0): TWO},), (A,), 0),
            (({(4, 0): ONE}, {(0, 4): ONE}), (A, {(0, 1): ONE}), 4),
        ):
            _, (found, _) = self.check(2, zeros, others, "no point")
            self.assertEqual(found, many)
        three = tuple({key: ONE} for key in ((4, 0, 0), (0, 4, 0), (0, 0, 4)))
        self.check(3, three, ({(1, 0, 0): ONE, (0, 1, 0): ONE, (0, 0, 1): ONE},), "no point")

    def test_none_of_both(self):
        for size in (1, 2, 3):
            one = {(0,) * size: ONE}
            self.check(size, (), (), "point")
            self.check(size, ({},), (), "point")
            self.check(size, ({}, {}), (one,), "point")
            self.check(size, (), ({},), "no point")
            self.check(size, ({}, one), ({}, one), "no point")
            self.check(size, (one,), (), "no point")
            self.check(size, (), (one, one), "point")

    def test_endlessly_many_points_and_parts_without(self):
        b, c = {(0, 1): ONE}, {(0, 1): ONE, (0, 0): LESS}
        # The points with a = 0, and one more; only this one is left.
        zeros = (times(0, A, b), times(0, A, {(1, 0): ONE, (0, 0): (-3, 1)}))
        kind, paper = self.check(2, zeros, (A,), "point")
        self.assertEqual(at(0, A, paper[0], paper[1]), ((3, 1),))
        self.check(2, (times(0, A, b),), (A, b), "no point")
        self.check(2, (times(0, A, b),), (A, c), "point")
        # Everything is 0 at the integers that are tried first.
        grid = {(3, 0): ONE, (1, 0): LESS}
        self.check(2, (), (grid, {(0, 3): ONE, (0, 1): LESS}), "point")
        self.check(2, (LINE,), ({(4, 0): ONE, (2, 0): LESS}, {(0, 1): ONE, (0, 0): (-2, 1)}), "point")
        self.check(3, ({(1, 1, 1): ONE},), ({(1, 1, 0): ONE},), "point")
        self.check(3, ({(1, 1, 1): ONE},), ({(1, 1, 0): ONE}, {(0, 0, 1): ONE}), "no point")

    def test_points_beside_a_line_on_which_the_others_are_0(self):
        # The letters that are free there are not free at the points that are looked for.
        source = random.Random(11)
        kinds = []
        for _ in range(60):
            size = source.randint(2, 3)
            place = tuple(source.randint(-3, 3) for _ in range(size))
            lines = [less_value(random_form(source, 0, size, 1, 3, 3), (0,) * size) for _ in range(size - 1)]
            zeros = tuple(times(0, source.choice(lines), less_value(random_form(source, 0, size, 2, 3, 3), place))
                          for _ in range(source.randint(1, 4)))
            others = tuple(source.choice(lines) for _ in range(source.randint(1, 2)))
            wanted = "point" if all(value_at(other, place) != 0 for other in others) else None
            kinds.append(self.check(size, zeros, others, wanted)[0])
        self.assertEqual(set(kinds), {"point", "no point"})

    def test_random_systems_have_one_of_both(self):
        source = random.Random(5)
        kinds = set()
        for _ in range(150):
            size = source.randint(1, 3)
            zeros = tuple(random_form(source, 0, size, source.randint(1, 3), source.randint(1, 3), 2)
                          for _ in range(source.randint(0, 3)))
            others = tuple(random_form(source, 0, size, source.randint(1, 2), 2, 2) for _ in range(source.randint(0, 3)))
            kinds.add(self.check(size, zeros, others)[0])
        self.assertEqual(kinds, {"point", "no point"})

    def test_prime_grounds(self):
        # [14.1] over prime grounds: own claims and papers, also with a modulus that has parts.
        for p in (2, 5, 9973):
            # Modulo t * t - t, which has parts, t is a point for both roots.
            m, zeros = (0, p - 1, 1), ({(2,): 1, (1,): p - 1},)
            self.assertTrue(takes(("point", p, 1, zeros, ()), (m, ((0, 1),), ())))
            self.assertFalse(takes(("point", p, 1, ({(1,): 1},), ()), (m, ((0, 1),), ())))
            self.assertFalse(takes(("point", p, 1, ({(2,): 1},), ()), (m, ((0, 1),), ())))
            # t is not undone there, 2 t - 1 is, by itself.
            for undoing in ((), (1,), (0, 1), (1, p - 1)):
                self.assertFalse(takes(("point", p, 1, zeros, ({(1,): 1},)), (m, ((0, 1),), (undoing,))))
            both = closed(p, {(1,): 2, (0,): -1})
            self.assertTrue(takes(("point", p, 1, zeros, (both,)), (m, ((0, 1),), (made(p, [-1, 2]),))))
            root, line = {(1,): 1}, {(1,): 1, (0,): 1}
            self.assertTrue(takes(("no point", p, 1, ({(2,): 1},), (root,)), (2, ({(0,): 1},))))
            self.assertFalse(takes(("no point", p, 1, ({(2,): 1},), (root,)), (1, ({(0,): 1},))))
            # The power p of a sum is the sum of the powers.
            self.assertTrue(takes(("no point", p, 1, ({(p,): 1, (0,): 1},), (line,)), (p, ({(0,): 1},))))
            self.assertFalse(takes(("no point", p, 1, ({(p,): 1, (0,): 1},), (line,)), (p - 1, ({(0,): 1},))))


class AllPoints(Case):
    def check(self, size, zeros):
        m, values = all_points(size, zeros)
        self.assertTrue(m[-1] == ONE and len(values) == size and all(len(value) < len(m) for value in values))
        self.assertTrue(all(at(0, zero, m, values) == () for zero in zeros))
        self.assertEqual(len(common(0, m, slope(0, m))), 1)
        rows = thinned(size, zeros)
        if len(rows) <= 6:
            # As many roots as points.
            self.assertEqual(len(m) - 1, len(standing(0, size, rows)))
        return m, values

    def test_all_points(self):
        m, values = self.check(2, (CIRCLE, LINE))
        self.assertEqual(len(m), 3)
        for zeros, many in (
            ((LINE, {(1, 1): ONE, (0, 0): (-4, 1)}), 2), (({(2, 0): ONE}, {(0, 3): ONE}), 1),
            (({(2, 0): ONE, (0, 0): LESS}, {(0, 2): ONE, (0, 0): LESS}), 4),
            (({(2, 0): ONE, (1, 0): (-2, 1), (0, 0): ONE}, {(0, 2): ONE, (1, 0): LESS}), 2),
        ):
            self.assertEqual(len(self.check(2, zeros)[0]) - 1, many)
        self.assertEqual(all_points(1, ({(2,): ONE, (1,): (-2, 1), (0,): ONE},)), ((LESS, ONE), ((ONE,),)))

    def test_unlike_roots_make_unlike_points(self):
        source = random.Random(6)
        for _ in range(15):
            size = source.randint(1, 3)
            points = sorted({random_place(source, size) for _ in range(source.randint(1, 4))})
            zeros = self.forms_with(points)
            m, values = self.check(size, zeros)
            found = fraction_points(size, zeros)
            self.assertEqual(len(m) - 1, len(points))
            self.assertEqual([tuple(Fraction(*x) for x in place) for place in found], points)
            roots = fraction_points(1, ({(k,): n for k, n in enumerate(m) if n != ZERO},))
            self.assertEqual(sorted(tuple(poly_value(0, value, root) for value in values) for (root,) in roots),
                             sorted(found))

    def forms_with(self, points):
        """Forms of a degree of at most four that are 0 at just these points, at most four."""
        size = len(points[0])
        forms = []
        for index in range(size):
            entries = sorted({point[index] for point in points})
            poly = poly_times(0, *[made(0, [-entry, 1]) for entry in entries])
            forms.append({tuple(k if at_letter == index else 0 for at_letter in range(size)): n
                          for k, n in enumerate(poly) if n != ZERO})
        # Each letter as a poly of a mix that takes unlike values.
        mixes = [sum(x * 101 ** k for k, x in enumerate(point)) for point in points]
        mix = {tuple(int(at_letter == index) for at_letter in range(size)): told(0, 101 ** index) for index in range(size)}
        for index in range(size):
            poly = self.through([(x, point[index]) for x, point in zip(mixes, points)])
            made_form = {}
            for k, number in enumerate(poly):
                made_form = plus(0, made_form, times(0, power(0, size, mix, k), {(0,) * size: number})
                                 if number != ZERO else {})
            letter = {tuple(int(at_letter == index) for at_letter in range(size)): ONE}
            forms.append(plus(0, letter, made_form, -1))
        return tuple(forms)

    def through(self, pairs):
        """The poly with these values."""
        result = ()
        for x, y in pairs:
            part = made(0, [y])
            for further, _ in pairs:
                if further != x:
                    part = poly_times(0, part, made(0, [-further / (x - further), 1 / (x - further)]))
            result = poly_plus(0, result, part)
        return result

    def test_fraction_points_in_order(self):
        square = {(2, 0): (4, 1), (0, 0): LESS}, {(0, 2): (9, 1), (0, 0): LESS}
        self.assertEqual(fraction_points(2, square), tuple(
            (told(0, x), told(0, y)) for x in (Fraction(-1, 2), Fraction(1, 2)) for y in (Fraction(-1, 3), Fraction(1, 3))))
        self.assertEqual(fraction_points(2, (CIRCLE, LINE)), ())
        self.assertEqual(fraction_points(2, (CIRCLE, {(1, 1): ONE})),
                         (((-1, 1), ZERO), (ZERO, (-1, 1)), (ZERO, ONE), (ONE, ZERO)))
        # A point that stands twice is told once.
        self.assertEqual(fraction_points(1, ({(3,): ONE, (2,): (-1, 2)},)), ((ZERO,), (HALF,)))
        self.assertEqual(fraction_points(1, ({(4,): ONE, (0,): (-4, 1)},)), ())
        self.assertEqual(fraction_points(1, ({(1,): (BIG, 1), (0,): (-2, BIG)},)), (((2, BIG * BIG),),))


class Wishes(Case):
    def test_cases(self):
        source = random.Random(7)
        for _ in range(150):
            size = source.randint(1, 2)
            wish = wish_of(source, size, source.randint(1, 6))
            wanted = told_cases(wish)
            if len(wanted) > 32:
                self.refuses(errors.TooMany, cases, size, wish)
            else:
                self.assertEqual(cases(size, wish), tuple(wanted))

    def test_the_sequence_of_cases(self):
        forms = [{(k,): ONE} for k in range(1, 5)]
        f, g, h, k = [("is", form) for form in forms]
        one = ("and", ("or", f, g), ("or", h, k))
        self.assertEqual(cases(1, one), tuple((pair, ()) for pair in product(forms[:2], forms[2:])))
        self.assertEqual(cases(1, ("not", one)), (((), (forms[0], forms[1])), ((), (forms[2], forms[3]))))
        self.assertEqual(cases(1, ("not", ("not", f))), (((forms[0],), ()),))
        self.assertEqual(cases(1, ("and", ("not", f), g, ("not", h))), (((forms[1],), (forms[0], forms[2])),))
        self.assertEqual(cases(1, ("or", f)), cases(1, ("and", f)))

    def test_cases_share_nothing(self):
        form = {(1,): ONE, (0,): TWO}
        found = cases(1, ("is", form))
        self.assertEqual(list(found[0][0][0]), [(0,), (1,)])
        found[0][0][0].clear()
        self.assertEqual(form, {(1,): ONE, (0,): TWO})

    def test_holds(self):
        source = random.Random(8)
        found = set()
        for _ in range(200):
            size = source.randint(1, 2)
            wish = wish_of(source, size, 4)
            place = tuple(told(0, Fraction(source.randint(-2, 2), source.choice((1, 2)))) for _ in range(size))
            if len(told_cases(wish)) <= 32:
                wanted = holds_told(wish, [Fraction(*x) for x in place])
                self.assertIs(holds(size, wish, place), wanted)
                by_cases = any(all(value_at(f, [Fraction(*x) for x in place]) == 0 for f in zeros)
                               and all(value_at(f, [Fraction(*x) for x in place]) != 0 for f in others)
                               for zeros, others in cases(size, wish))
                self.assertEqual(wanted, by_cases)
                found.add(wanted)
        self.assertEqual(found, {True, False})
        root = ("is", {(1,): (3, 1), (0,): LESS})
        self.assertTrue(holds(1, root, ((1, 3),)))
        self.assertFalse(holds(1, root, ((10 ** 50 + 1, 3 * 10 ** 50),)))
        self.assertTrue(holds(1, ("not", root), ((10 ** 50 + 1, 3 * 10 ** 50),)))

    def check(self, claim, paper):
        self.assertTrue(is_ascending((claim, paper)) and is_paper(claim, paper) and takes(claim, paper), claim)
        return claim[0]

    def test_answers(self):
        source = random.Random(9)
        kinds = []
        for _ in range(50):
            size = source.randint(1, 2)
            one, other = wish_of(source, size, 3), wish_of(source, size, 3)
            if len(told_cases(one)) <= 8 and len(told_cases(other)) <= 4:
                kinds.append(self.check(*wish_answer(size, one)))
                kinds.append(self.check(*wish_answer(size, ("and", one, ("not", one)))))
                self.assertEqual(kinds[-1], "never")
                self.assertEqual(wish_answer(size, ("or", one, ("not", one)))[0][0], "happens")
                try:
                    kinds.append(self.check(*alike_answer(size, one, other)))
                    self.assertEqual(alike_answer(size, other, one)[0][0], kinds[-1])
                except errors.TooMany:
                    pass
        self.assertLessEqual({"happens", "never", "unlike"}, set(kinds))

    def test_alike_by_the_rules(self):
        # Wishes told anew by the rules of "not", "and" and "or".
        source = random.Random(10)
        for _ in range(12):
            size = source.randint(1, 2)
            f, g = (("is", random_form(source, 0, size, 1, 2, 2)) for _ in range(2))
            for one, other in (
                (("not", ("and", f, g)), ("or", ("not", f), ("not", g))), (("not", ("or", f, g)), ("and", ("not", f), ("not", g))),
                (("and", f, g), ("and", g, f)), (("or", f, ("and", f, g)), f), (("and", f, ("or", f, g)), f), (f, ("not", ("not", f))),
                (("is", times(0, f[1], g[1])), ("or", f, g)), (("is", times(0, f[1], f[1])), f),
            ):
                if all(sum(key) <= 4 for wish in (one, other) for key in (wish[1] if wish[0] == "is" else ())):
                    self.assertEqual(self.check(*alike_answer(size, one, other)), "alike")
        zero, one = ("is", {(1,): ONE}), ("is", {(1,): ONE, (0,): LESS})
        self.assertEqual(self.check(*alike_answer(1, zero, one)), "unlike")
        self.assertEqual(alike_answer(1, ("or", zero, one), zero)[1][0], 0)
        self.assertEqual(alike_answer(1, zero, ("or", zero, one))[1][0], 1)

    def test_an_answer_names_the_case(self):
        claim, paper = wish_answer(1, ("or", ("is", {(0,): ONE}), ("is", {(1,): ONE}), ("is", {})))
        self.assertEqual((claim[0], paper[0]), ("happens", 1))
        claim, paper = wish_answer(1, ("and", ("is", {(0,): ONE}), ("or", ("is", {}), ("is", {}))))
        self.assertEqual((claim[0], len(paper)), ("never", 2))

    def test_many_cases(self):
        lines = [("is", {(1, 0): ONE, (0, 1): told(0, k), (0, 0): told(0, k * k)}) for k in range(1, 7)]
        wish = ("and", ("or",) + tuple(lines[:5]), ("or",) + tuple(lines[:6]), ("not", ("or",) + tuple(lines[1:3])))
        self.assertEqual(len(cases(2, wish)), 30)
        self.assertEqual(self.check(*wish_answer(2, wish)), "happens")
        never = ("and",) + (("or", ("is", {(0, 0): ONE}), ("is", {(0, 0): TWO})),) * 5
        claim, paper = wish_answer(2, never)
        self.assertEqual((self.check(claim, paper), len(paper)), ("never", 32))
