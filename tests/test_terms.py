"""Stage 10: forms."""
import random
from fractions import Fraction

from forms import closed as closed_form, common_key, crossed as reckoned_crossed, divided as reckoned_division
from forms import form_rule, forms_rule, head as reckoned_head, is_ascending, is_form as fits, leads, mixed
from forms import order_rule, plus, power, random_form, rank, size_rule, term, times, total
from helping import BIG, GROUND, HALF, LESS, ODD, ONE, TWO, Case, between, is_integer, is_number, is_vector, read, told
from polys import any_poly, poly_rule

from zeroorone import errors
from zeroorone.many import terms
from zeroorone.many.terms import crossed, degree, divided, form_less, form_power, form_product, form_sum, head
from zeroorone.many.terms import head_number, in_letter, is_division, is_form, monic_form, poly_of, put_in, value_at

GROUNDS = (0, 2, 5, 9973)
CIRCLE, LINE = {(2, 0): ONE, (0, 2): ONE, (0, 0): (-1, 1)}, {(1, 0): ONE, (0, 1): (-1, 1)}
SQUARE_TWO = ((-2, 1), (0, 1), (1, 1))


def any_form(source, ground, size, most=4, terms=5):
    return random_form(source, ground, size, most, source.randint(0, terms))


class Examples(Case):
    def test_examples(self):
        self.assertEqual(form_product(0, 2, LINE, LINE), {(0, 2): (1, 1), (1, 1): (-2, 1), (2, 0): (1, 1)})
        self.assertEqual(head(0, 2, CIRCLE, "deg"), (2, 0))
        self.assertEqual(head_number(5, 1, {(2,): 3, (0,): 1}, "lex"), 3)
        self.assertEqual(divided(0, 2, CIRCLE, (LINE,), "lex"),
                         (({(0, 1): ONE, (1, 0): ONE},), {(0, 0): (-1, 1), (0, 2): TWO}))
        self.assertEqual(crossed(0, 2, CIRCLE, LINE, "lex"), {(0, 0): (-1, 1), (0, 2): (1, 1), (1, 1): (1, 1)})
        self.assertEqual(value_at(0, 2, CIRCLE, (HALF, HALF)), (-1, 2))
        self.assertEqual(in_letter(0, 2, SQUARE_TWO, 1), {(0, 0): (-2, 1), (0, 2): (1, 1)})
        self.assertEqual(poly_of(0, 2, {(0, 3): ONE}, 1), ((0, 1), (0, 1), (0, 1), (1, 1)))
        self.assertEqual(degree(0, 2, {}), -1)
        self.assertEqual(self.refuses(errors.Refused, head, 0, 2, {}, "lex").reason, ("zero",))

    def test_what_is_not_true(self):
        # [10.7]
        edge, square = {(1, 1): ONE, (0, 0): ONE}, {(0, 2): ONE, (0, 0): LESS}
        form = {(1, 2): ONE, (1, 0): LESS}
        self.assertEqual(divided(0, 2, form, (edge, square), "lex")[1], {(0, 1): LESS, (1, 0): LESS})
        self.assertEqual(divided(0, 2, form, (square, edge), "lex")[1], {})
        self.assertEqual(degree(0, 2, form_sum(0, 2, {(2, 0): ONE}, {(2, 0): LESS, (0, 0): ONE})), 0)


class Refusals(Case):
    def test_refusals(self):
        for ground in (0, 5):
            one = told(ground, 1)
            form, forms, vector = {(1, 0): one}, ({(1, 0): one}, {(0, 0): one}), (one, one)
            start, order = (GROUND, size_rule()), order_rule()
            is_right = form_rule(ground, 2)
            several = forms_rule(ground, 2)
            for call in (form_sum, form_less, form_product):
                self.check_refusals(call, (ground, 2, form, form), start + (is_right, is_right))
            self.check_refusals(degree, (ground, 2, form), start + (is_right,))
            self.check_refusals(form_power, (ground, 2, form, 3), start + (is_right, between(0, 60)))
            for call in (head, head_number, monic_form):
                self.check_refusals(call, (ground, 2, form, "deg"), start + (is_right, order))
            row = (errors.InvalidTable, None, lambda value: is_vector(ground, value, 2))
            self.check_refusals(value_at, (ground, 2, form, vector), start + (is_right, row))
            two = (errors.InvalidForm, None, lambda value: several[2](value) and len(value) == 2)
            self.check_refusals(put_in, (ground, 2, form, forms), start + (is_right, two))
            self.check_refusals(in_letter, (ground, 2, (one, one), 1), start + (poly_rule(ground), between(0, 1)))
            self.check_refusals(poly_of, (ground, 2, form, 0), start + (is_right, between(0, 1)))
            self.check_refusals(divided, (ground, 2, form, forms, "lex"), start + (is_right, several, order))
            self.check_refusals(is_division, (ground, 2, form, forms, "lex", None), start + (is_right, several, order))
            self.check_refusals(crossed, (ground, 2, form, form, "lex"), start + (is_right, is_right, order))
            self.check_refusals(is_form, (ground, 2, form), start)

    def test_bounds(self):
        top = {(12,): ONE}
        self.assertEqual((degree(0, 1, top), degree(0, 3, {(4, 4, 4): ONE})), (12, 12))
        for form in ({(13,): ONE}, {(-1,): ONE}, {(1, 0): ONE}, {(True,): ONE}, {1: ONE}, {(1,): 1}, {(1,): (0, 1)},
                     {(1,): (2, 2)}, {(1,): (BIG + 1, 1)}, {(1,): (1, True)}, {((1,),): ONE}, {"a": ONE}, [], (), None,
                     {(1,): [1, 1]}, {(): ONE}):
            self.refuses(errors.InvalidForm, degree, 0, 1, form)
            self.assertIs(is_form(0, 1, form), False)
            self.refuses(errors.InvalidForm, divided, 0, 1, top, (top, form), "lex")
        for form in ({(1,): 5}, {(1,): 0}, {(1,): -1}, {(1,): ONE}, {(1,): True}):
            self.refuses(errors.InvalidForm, degree, 5, 1, form)
        self.refuses(errors.InvalidForm, degree, 0, 3, {(4, 4, 5): ONE})
        self.assertEqual(divided(0, 1, top, (top,) * 6, "lex"), (({(0,): ONE},) + ({},) * 5, {}))
        self.refuses(errors.InvalidForm, divided, 0, 1, top, (top,) * 7, "lex")
        self.refuses(errors.InvalidForm, divided, 0, 1, top, [top], "lex")
        for wrong in ("Lex", "", None, ["lex"], ("deg",), True):
            self.assertEqual(self.refuses(errors.UnknownName, head, 0, 1, {}, wrong).name, wrong)
        self.assertEqual(self.refuses(errors.InvalidNumber, degree, 0, 4, None).given, 4)
        self.assertEqual(self.refuses(errors.InvalidNumber, degree, 0, True, None).given, True)

    def test_constants(self):
        self.assertEqual((terms.MAX_FORM_DEGREE, terms.MAX_FORMS, terms.MAX_MADE_DEGREE), (12, 6, 60))

    def test_powers_that_are_too_high(self):
        self.assertEqual(form_power(0, 1, {(12,): ONE}, 5), {(60,): ONE})
        self.assertEqual(form_power(0, 1, {(1,): ONE}, 60), {(60,): ONE})
        self.assertEqual(form_power(0, 1, {(0,): TWO}, 60), {(0,): (2 ** 60, 1)})
        self.assertEqual((form_power(0, 1, {}, 60), form_power(0, 1, {}, 0)), ({}, {(0,): ONE}))
        for form, many in (({(12,): ONE}, 6), ({(2,): ONE}, 31)):
            self.assertEqual(self.refuses(errors.TooMany, form_power, 0, 1, form, many).limit, 60)
        for many in (61, -1, True):
            self.assertEqual(self.refuses(errors.InvalidNumber, form_power, 0, 1, {(12,): ONE}, many).given, many)

    def test_put_in_that_is_too_high(self):
        self.assertEqual(put_in(0, 1, {(12,): ONE}, ({(5,): ONE},)), {(60,): ONE})
        for form, forms in (({(12,): ONE}, ({(6,): ONE},)), ({(6,): ONE, (0,): ONE}, ({(11,): ONE},))):
            self.assertEqual(self.refuses(errors.TooMany, put_in, 0, 1, form, forms).limit, 60)
        self.assertEqual(put_in(0, 2, {}, ({(12, 0): ONE}, {})), {})
        self.assertEqual(put_in(0, 2, {(0, 0): TWO}, ({(12, 0): ONE}, {})), {(0, 0): TWO})
        self.assertEqual(put_in(0, 2, {(12, 0): ONE, (0, 0): ONE}, ({}, {})), {(0, 0): ONE})
        for forms in (({(0, 0): ONE},), ({(0, 0): ONE},) * 3, ()):
            self.refuses(errors.InvalidForm, put_in, 0, 2, {(12, 0): ONE}, forms)

    def test_errors_that_come_last(self):
        for call in (head, head_number, monic_form):
            self.refuses(errors.UnknownName, call, 0, 2, {}, "no")
            self.assertEqual(self.refuses(errors.Refused, call, 0, 2, {}, "deg").reason, ("zero",))
        for one, other in (({}, LINE), (LINE, {}), ({}, {})):
            self.assertEqual(self.refuses(errors.Refused, crossed, 0, 2, one, other, "deg").reason, ("zero",))
            self.refuses(errors.UnknownName, crossed, 0, 2, one, other, "no")
        for index in (0, 1):
            self.assertEqual(self.refuses(errors.Refused, poly_of, 0, 2, CIRCLE, index).reason, ("letters",))
            self.refuses(errors.Refused, poly_of, 0, 2, {(1, 1): ONE}, index)
        self.refuses(errors.InvalidNumber, poly_of, 0, 2, CIRCLE, 2)

    def test_judging_takes_every_value(self):
        for value in ODD:
            self.assertIs(is_form(0, 1, value), fits(0, 1, value))
            self.assertIs(is_division(0, 1, {}, (), "lex", value), False)
        self.assertIs(is_form(5, 1, {}), True)
        self.assertIs(is_form(5, 1, {(12,): 4}), True)


class Sums(Case):
    def test_sums_and_products(self):
        source = random.Random(101)
        for ground in GROUNDS:
            for size in (1, 2, 3):
                for _ in range(12):
                    one, other = any_form(source, ground, size), any_form(source, ground, size)
                    for call, wanted in ((form_sum, plus(ground, one, other)), (form_less, plus(ground, one, other, -1)),
                                         (form_product, times(ground, one, other))):
                        found = call(ground, size, one, other)
                        self.assertEqual(found, wanted)
                        self.assertTrue(is_ascending(found))
                    self.assertEqual(degree(ground, size, one), max([sum(key) for key in one], default=-1))

    def test_keys_that_drop_out(self):
        for ground in GROUNDS:
            one = closed_form(ground, {(1, 0): 1, (0, 0): 1})
            self.assertEqual(form_less(ground, 2, one, one), {})
            self.assertEqual(form_sum(ground, 2, one, {}), one)
            self.assertEqual(form_sum(ground, 2, {}, one), one)
            self.assertEqual(form_less(ground, 2, {}, one), closed_form(ground, {(1, 0): -1, (0, 0): -1}))
            self.assertEqual(form_product(ground, 2, one, {}), {})
            self.assertEqual(form_sum(ground, 2, {}, {}), {})
            turned = closed_form(ground, {(1, 0): 1, (0, 0): -1})
            self.assertEqual(form_product(ground, 2, one, turned), closed_form(ground, {(2, 0): 1, (0, 0): -1}))

    def test_long_integers_and_the_greatest_degree(self):
        one = {(12, 0, 0): (BIG, BIG - 1), (0, 12, 0): (-BIG, 1), (0, 0, 0): (1, BIG)}
        self.assertEqual(form_product(0, 3, one, one), times(0, one, one))
        self.assertEqual(form_less(0, 3, one, one), {})

    def test_arguments_are_not_changed(self):
        one, other = {(1,): ONE, (0,): TWO}, {(0,): ONE, (1,): LESS}
        form_sum(0, 1, one, other)
        found = divided(0, 1, one, (other,), "deg")
        self.assertEqual((list(one), list(other)), ([(1,), (0,)], [(0,), (1,)]))
        self.assertTrue(is_ascending(found))

    def test_powers(self):
        source = random.Random(102)
        for ground in GROUNDS:
            for many in (0, 1, 2, 5):
                one = any_form(source, ground, 2, 3, 3)
                self.assertEqual(form_power(ground, 2, one, many), power(ground, 2, one, many))


class Heads(Case):
    def test_heads(self):
        source = random.Random(103)
        for ground in GROUNDS:
            for order in ("lex", "deg"):
                for size in (1, 2, 3):
                    for _ in range(8):
                        one = any_form(source, ground, size) or term(ground, (0,) * size)
                        other = any_form(source, ground, size) or term(ground, (1,) * size)
                        top = head(ground, size, one, order)
                        self.assertEqual(top, reckoned_head(order, one))
                        self.assertEqual(head_number(ground, size, one, order), one[top])
                        made = monic_form(ground, size, one, order)
                        self.assertEqual(made[top], told(ground, 1))
                        self.assertEqual(times(ground, made, {(0,) * size: one[top]}), one)
                        self.assertTrue(is_ascending(made))
                        self.check_sums(ground, size, order, one, other)

    def check_sums(self, ground, size, order, one, other):
        # [10.2]
        top, further = head(ground, size, one, order), head(ground, size, other, order)
        whole = form_product(ground, size, one, other)
        self.assertEqual(head(ground, size, whole, order), tuple(x + y for x, y in zip(top, further)))
        both = form_sum(ground, size, one, other)
        if both:
            self.assertLessEqual(rank(order, head(ground, size, both, order)),
                                 max(rank(order, top), rank(order, further)))

    def test_the_two_orders(self):
        form = {(1, 0): ONE, (0, 3): ONE, (0, 0): TWO}
        self.assertEqual((head(0, 2, form, "lex"), head(0, 2, form, "deg")), ((1, 0), (0, 3)))
        self.assertEqual(head(0, 2, {(1, 1): ONE, (2, 0): ONE, (0, 2): ONE}, "deg"), (2, 0))


class PutIn(Case):
    def values(self, source, ground, size):
        return tuple(random_number_of(source, ground) for _ in range(size))

    def test_values(self):
        source = random.Random(104)
        for ground in GROUNDS:
            for size in (1, 2, 3):
                for _ in range(8):
                    one, other = any_form(source, ground, size), any_form(source, ground, size)
                    vector = self.values(source, ground, size)
                    found = value_at(ground, size, one, vector)
                    self.assertEqual(found, self.reckoned(ground, one, vector))
                    for call, wanted in ((form_sum, lambda x, y: x + y), (form_product, lambda x, y: x * y)):
                        both = value_at(ground, size, call(ground, size, one, other), vector)
                        parts = [read(ground, value_at(ground, size, form, vector)) for form in (one, other)]
                        self.assertEqual(both, told(ground, wanted(*parts)))
        self.assertEqual(value_at(0, 2, {}, (ONE, ONE)), (0, 1))
        self.assertEqual(value_at(0, 1, {(12,): (BIG, 1)}, ((BIG, BIG - 1),)), told(0, BIG * Fraction(BIG, BIG - 1) ** 12))

    def reckoned(self, ground, form, vector):
        value = 0
        for key, number in form.items():
            part = read(ground, number)
            for exponent, entry in zip(key, vector):
                part *= read(ground, entry) ** exponent
            value += part
        return told(ground, value)

    def test_forms_put_in(self):
        source = random.Random(105)
        for ground in GROUNDS:
            for size in (1, 2, 3):
                for _ in range(5):
                    one, other = any_form(source, ground, size, 2), any_form(source, ground, size, 2)
                    forms = tuple(any_form(source, ground, size, 3, 3) for _ in range(size))
                    wanted = total(ground, [self.put_term(ground, size, key, number, forms) for key, number in one.items()])
                    found = put_in(ground, size, one, forms)
                    self.assertEqual(found, wanted)
                    self.assertTrue(is_ascending(found))
                    for call in (form_sum, form_product):
                        further = put_in(ground, size, other, forms)
                        self.assertEqual(put_in(ground, size, call(ground, size, one, other), forms),
                                         call(ground, size, found, further))

    def put_term(self, ground, size, key, number, forms):
        made = {(0,) * size: number}
        for exponent, form in zip(key, forms):
            made = times(ground, made, power(ground, size, form, exponent))
        return made

    def test_letters_are_put_in_at_once(self):
        form = {(2, 1): ONE}
        self.assertEqual(put_in(0, 2, form, ({(0, 1): ONE}, {(1, 0): ONE})), {(1, 2): ONE})

    def test_polys_in_a_letter(self):
        source = random.Random(106)
        for ground in GROUNDS:
            for size in (1, 2, 3):
                for index in range(size):
                    poly = any_poly(source, ground, 12)
                    form = in_letter(ground, size, poly, index)
                    self.assertEqual(poly_of(ground, size, form, index), poly)
                    self.assertTrue(is_ascending(form) and fits(ground, size, form))
                    self.assertTrue(all(sum(key) == key[index] for key in form))
        self.assertEqual((in_letter(0, 2, (), 0), poly_of(0, 2, {}, 0), poly_of(0, 2, {(0, 0): TWO}, 1)), ({}, (), (TWO,)))


def random_number_of(source, ground):
    return source.randrange(ground) if ground else told(0, Fraction(source.randint(-5, 5), source.randint(1, 3)))


class Divisions(Case):
    def test_divisions_turn_by_turn(self):
        source = random.Random(107)
        for ground in GROUNDS:
            for order in ("lex", "deg"):
                for size in (1, 2, 3):
                    for _ in range(8):
                        form = any_form(source, ground, size, 6, 8)
                        forms = tuple(any_form(source, ground, size, 2, 3) for _ in range(source.randint(0, 4)))
                        forms = (forms + forms[:1] + ({},))[:source.randint(0, 6)]
                        found = divided(ground, size, form, forms, order)
                        self.assertEqual(found, reckoned_division(ground, form, forms, order))
                        self.assertTrue(is_ascending(found))
                        self.check(ground, size, form, forms, order, found)

    def check(self, ground, size, form, forms, order, found):
        """[10.4]"""
        quotients, rest = found
        self.assertEqual(plus(ground, mixed(ground, quotients, forms), rest), form)
        heads = [reckoned_head(order, one) for one in forms if one]
        self.assertFalse(any(leads(top, key) for key in rest for top in heads))
        self.assertIs(is_division(ground, size, form, forms, order, found), True)
        for wrong in self.near(ground, size, found):
            self.assertIs(is_division(ground, size, form, forms, order, wrong), False)

    def near(self, ground, size, found):
        quotients, rest = found
        one = term(ground, (0,) * size)
        yield quotients, plus(ground, rest, one)
        yield list(quotients), rest
        yield [quotients, rest]
        yield quotients, rest, rest
        yield quotients + ({},), rest
        yield quotients, [rest]
        yield quotients, {(0,) * size: None}
        yield quotients, {**rest, (0,) * size: 0 if ground else (0, 1)}
        yield quotients, {**rest, (0,) * (size + 1): told(ground, 1)}
        yield ([],) * len(quotients) if quotients else [], rest
        if quotients:
            yield quotients[1:], rest

    def test_other_divisions_are_taken(self):
        edge, square = {(1, 1): ONE, (0, 0): ONE}, {(0, 2): ONE, (0, 0): LESS}
        form = {(1, 2): ONE, (1, 0): LESS}
        self.assertIs(is_division(0, 2, form, (edge, square), "lex", (({}, {(1, 0): ONE}), {})), True)
        self.assertIs(is_division(0, 2, form, (edge, square), "lex", (({(0, 1): ONE}, {}), {(0, 1): LESS, (1, 0): LESS})),
                      True)
        # A key of the rest that is a multiple of a head, and heads that are above that of the form.
        self.assertIs(is_division(0, 2, form, (edge, square), "lex", (({}, {}), form)), False)
        big = ({(0, 3): ONE, (1, 1): ONE}, {(0, 2): LESS})
        value = tuple(plus(0, x, y) for x, y in zip(({}, {(1, 0): ONE}), (times(0, {(2, 0): ONE}, square),
                                                                         times(0, {(2, 0): LESS}, edge)))), {}
        self.assertEqual(mixed(0, value[0], (edge, square)), form)
        self.assertIs(is_division(0, 2, form, (edge, square), "lex", value), False)
        self.assertIs(is_division(0, 2, form, (edge, square), "lex", (big, {})), False)

    def test_nothing_is_divided(self):
        self.assertEqual(divided(0, 1, {}, ({(1,): ONE}, {}), "lex"), (({}, {}), {}))
        self.assertIs(is_division(0, 1, {}, ({(1,): ONE}, {}), "lex", (({}, {(5,): ONE}), {})), True)
        self.assertIs(is_division(0, 1, {}, ({(1,): ONE}, {(1,): LESS}), "lex", (({(0,): ONE}, {(0,): ONE}), {})), False)
        self.assertEqual(divided(0, 1, {(1,): ONE}, (), "lex"), ((), {(1,): ONE}))
        self.assertEqual(divided(0, 1, {(1,): ONE}, ({(0,): TWO},), "lex"), (({(1,): HALF},), {}))

    def test_any_degree_and_length(self):
        # b ** n - b ** n, as multiples of b and of 2 b, with an exponent and numbers of any length.
        for many, number in ((30, 1), (10 ** 5, 1), (10 ** 70, 10 ** 70), (7, 10 ** 200)):
            forms = ({(0, 1): ONE}, {(0, 1): TWO})
            value = (({(0, many): (2 * number, 1), (1, 0): ONE}, {(0, many): (-number, 1)}), {})
            self.assertIs(is_division(0, 2, {(1, 1): ONE}, forms, "lex", value), True)
            self.assertIs(is_division(0, 2, {(1, 1): ONE}, forms, "deg", value), False)
            value[0][1][(0, many)] = (-number - 1, 1)
            self.assertIs(is_division(0, 2, {(1, 1): ONE}, forms, "lex", value), False)

    def test_long_integers(self):
        source = random.Random(108)
        form = {(k,): told(0, Fraction(source.randint(1, BIG), source.randint(1, BIG))) for k in range(13)}
        forms = ({(k,): told(0, Fraction(source.randint(1, BIG), source.randint(1, BIG))) for k in range(3)},)
        self.check(0, 1, form, forms, "deg", divided(0, 1, form, forms, "deg"))


class CrossedPairs(Case):
    def test_crossed_pairs(self):
        source = random.Random(109)
        for ground in GROUNDS:
            for order in ("lex", "deg"):
                for size in (1, 2, 3):
                    for _ in range(10):
                        one = any_form(source, ground, size) or term(ground, (1,) * size)
                        other = any_form(source, ground, size) or term(ground, (0,) * size)
                        found = crossed(ground, size, one, other, order)
                        self.assertEqual(found, reckoned_crossed(ground, one, other, order))
                        self.assertTrue(is_ascending(found))
                        tops = reckoned_head(order, one), reckoned_head(order, other)
                        self.check_heads(ground, order, one, other, found, tops)

    def check_heads(self, ground, order, one, other, found, tops):
        if found:
            self.assertLess(rank(order, reckoned_head(order, found)), rank(order, common_key(*tops)))
        if not any(x and y for x, y in zip(*tops)):
            # [10.6]
            self.assertEqual(divided(ground, len(tops[0]), found, (one, other), order)[1], {})

    def test_letters_in_common_or_not(self):
        one, other = {(2, 1): ONE, (0, 0): ONE}, {(1, 2): ONE, (1, 0): ONE}
        self.assertEqual(crossed(0, 2, one, other, "lex"), {(0, 1): ONE, (2, 0): LESS})
        self.assertEqual(crossed(0, 2, {(1, 0): ONE, (0, 0): ONE}, {(0, 1): ONE}, "lex"), {(0, 1): ONE})
        self.assertEqual(crossed(0, 2, one, one, "lex"), {})
        # The heads drop out, whatever their numbers are.
        self.assertEqual(crossed(0, 1, {(2,): TWO, (0,): ONE}, {(1,): (-3, 1), (0,): ONE}, "deg"),
                         {(0,): HALF, (1,): (1, 3)})
        self.assertEqual(crossed(5, 1, {(1,): 3, (0,): 1}, {(1,): 1, (0,): 4}, "deg"), {(0,): 3})
        self.assertEqual(crossed(0, 1, {(1,): TWO}, {(1,): (-1, 3)}, "lex"), {})

    def test_kinds(self):
        self.assertTrue(is_integer(degree(0, 1, {})) and is_number(0, head_number(0, 1, {(1,): HALF}, "lex")))
