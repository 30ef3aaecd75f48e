"""Stage 11: bases."""
import random
from itertools import combinations

from forms import check_reduced, closed, crossed, divided, form_rule, forms_rule, head, is_ascending, judge_basis
from forms import judge_multiples, leads, mixed, order_rule, plus, random_form, rank, size_rule, term, times
from helping import BIG, GROUND, HALF, LESS, ODD, ONE, TWO, Case, told

from zeroorone import errors
from zeroorone.many import bases
from zeroorone.many.bases import basis_answer, heads, is_basis, is_reduced, reduced_basis, rest, rest_multiples
from zeroorone.paper.forms import Frame
from zeroorone.search.building import built

GROUNDS = (0, 2, 5, 9973)
ORDERS = ("lex", "deg")
CIRCLE, LINE = {(2, 0): ONE, (0, 2): ONE, (0, 0): (-1, 1)}, {(1, 0): ONE, (0, 1): (-1, 1)}
EDGE = {(1, 1): ONE, (0, 0): ONE}


def forms_of(ground, *values):
    return tuple(closed(ground, value) for value in values)


def is_basis_by_pairs(ground, order, forms):
    """[11.3], by dividing each crossed pair."""
    return all(divided(ground, crossed(ground, one, other, order), forms, order)[1] == {}
               for one, other in combinations(forms, 2))


def random_forms(source, ground, size, most=2, terms=3, many=3):
    return tuple(random_form(source, ground, size, most, terms, 3) for _ in range(source.randint(1, many)))


class Examples(Case):
    def test_examples(self):
        self.assertEqual(reduced_basis(0, 2, "lex", (CIRCLE, LINE)),
                         ({(0, 0): (-1, 2), (0, 2): ONE}, {(0, 1): (-1, 1), (1, 0): ONE}))
        self.assertEqual(heads(0, 2, "deg", (CIRCLE, LINE)), ((1, 0), (0, 2)))
        self.assertEqual(rest(0, 2, "lex", (CIRCLE, LINE), {(2, 0): ONE}), {(0, 0): (1, 2)})
        self.assertIs(is_basis(0, 2, "lex", (EDGE, {(0, 2): ONE, (0, 0): (-1, 1)})), False)
        self.assertIs(is_basis(0, 2, "lex", (LINE, LINE)), True)
        self.assertIs(is_reduced(0, 2, "lex", (LINE, LINE)), False)
        self.assertEqual(reduced_basis(0, 1, "deg", ({(1,): ONE}, {(1,): ONE, (0,): ONE})), ({(0,): (1, 1)},))
        self.assertEqual(reduced_basis(0, 2, "deg", ({},)), ())
        self.assertEqual(reduced_basis(2, 1, "lex", ({(2,): 1, (0,): 1}, {(3,): 1, (0,): 1})), ({(0,): 1, (1,): 1},))
        self.assertEqual(basis_answer(0, 1, "lex", ({(1,): TWO},))[0],
                         ("basis", 0, 1, "lex", ({(1,): (2, 1)},), ({(1,): (1, 1)},)))

    def test_what_is_not_true(self):
        # [11.6]
        self.assertEqual(len(reduced_basis(0, 2, "deg", forms_of(0, {(2, 0): 1}, {(1, 1): 1, (0, 2): 1}))), 3)
        forms = forms_of(0, {(1, 0): 1, (0, 2): -1}, {(0, 3): 1})
        self.assertEqual([is_basis(0, 2, order, forms) for order in ORDERS], [True, False])
        near = forms_of(0, {(0, 1): 1}, {(1, 0): 1, (0, 1): 1})
        self.assertEqual(heads(0, 2, "lex", near), tuple(head("lex", form) for form in near))
        self.assertNotEqual(reduced_basis(0, 2, "lex", near), near)
        self.assertEqual((is_basis(0, 2, "lex", near), is_reduced(0, 2, "lex", near)), (True, False))


class Refusals(Case):
    def test_refusals(self):
        for ground in (0, 5):
            one = told(ground, 1)
            form = {(1, 0): one}
            start = (GROUND, size_rule(), order_rule())
            forms, single = forms_rule(ground, 2), form_rule(ground, 2)
            for call in (reduced_basis, basis_answer, heads):
                self.check_refusals(call, (ground, 2, "lex", (form,)), start + (forms,))
            for call in (rest, rest_multiples):
                self.check_refusals(call, (ground, 2, "deg", (form,), form), start + (forms, single))
            for call in (is_basis, is_reduced):
                self.check_refusals(call, (ground, 2, "deg", ()), start)

    def test_bounds(self):
        top = {(12,): ONE}
        self.assertEqual(reduced_basis(0, 1, "lex", (top,) * 6), (top,))
        for wrong in ((top,) * 7, [top], ({(13,): ONE},), ({(0,): (0, 1)},), ({(1,): 1},), None):
            for call in (reduced_basis, basis_answer, heads):
                self.refuses(errors.InvalidForm, call, 0, 1, "lex", wrong)
            self.refuses(errors.InvalidForm, rest, 0, 1, "lex", wrong, None)
        self.refuses(errors.UnknownName, reduced_basis, 0, 1, "LEX", None)
        self.refuses(errors.InvalidNumber, reduced_basis, 0, 4, "LEX", None)
        self.refuses(errors.InvalidForm, rest, 0, 1, "lex", (top,), {(13,): ONE})
        self.assertEqual(bases.MAX_JUDGED, 12)

    def test_judging_takes_every_value(self):
        for value in ODD:
            wanted = value == ()
            self.assertIs(is_basis(0, 1, "deg", value), wanted)
            self.assertIs(is_reduced(0, 1, "deg", value), wanted)

    def test_judging_at_the_bounds(self):
        for many in (1, 12, 13):
            same = (LINE,) * many
            self.assertIs(is_basis(0, 2, "lex", same), many < 13)
            powers = tuple({(k, 12 - k): ONE} for k in range(many))
            self.assertIs(is_basis(0, 2, "deg", powers), many < 13)
            self.assertIs(is_reduced(0, 2, "deg", powers), many < 13)
        for wrong in (({},), ({(13,): ONE},), ({(12,): ONE}, {}), [{(1,): ONE}], ({(1,): 1},), ({(1,): (2, 2)},),
                      ({(1,): (BIG + 1, 1)},), ({(1, 0): ONE},), {(1,): ONE}, ({(True,): ONE},), (((1,), ONE),)):
            self.assertIs(is_basis(0, 1, "lex", wrong), False)
            self.assertIs(is_reduced(0, 1, "lex", wrong), False)
        self.assertIs(is_basis(0, 1, "lex", ({(12,): (BIG, 1)},)), True)


class Bases(Case):
    def check(self, ground, size, order, forms):
        claim, paper = basis_answer(ground, size, order, forms)
        rows = claim[5]
        self.assertEqual(claim[:5], ("basis", ground, size, order, forms))
        self.assertTrue(is_ascending((claim, paper)))
        judge_basis(self, ground, size, order, forms, rows, paper)
        self.assertEqual(reduced_basis(ground, size, order, forms), rows)
        self.assertEqual(heads(ground, size, order, forms), tuple(head(order, row) for row in rows))
        self.assertTrue(is_basis_by_pairs(ground, order, rows))
        self.assertTrue(all(rest(ground, size, order, forms, form) == {} for form in forms))
        if len(rows) <= 12 and all(form_rule(ground, size)[2](row) for row in rows):
            self.assertIs(is_basis(ground, size, order, rows), True)
            self.assertIs(is_reduced(ground, size, order, rows), True)
        return rows

    def test_papers(self):
        source = random.Random(111)
        for ground in GROUNDS:
            for order in ORDERS:
                for size, most in ((1, 4), (2, 3), (3, 2)):
                    for _ in range(4):
                        self.check(ground, size, order, random_forms(source, ground, size, most))

    def test_little_forms(self):
        for ground in GROUNDS:
            one = told(ground, 1)
            for order in ORDERS:
                self.assertEqual(self.check(ground, 2, order, ()), ())
                self.assertEqual(self.check(ground, 2, order, ({},)), ())
                self.assertEqual(self.check(ground, 2, order, ({}, {})), ())
                self.assertEqual(self.check(ground, 2, order, ({(0, 0): one},)), ({(0, 0): one},))
                within = forms_of(ground, {(1, 0): 1}, {(1, 1): 1, (0, 0): 1})
                self.assertEqual(self.check(ground, 2, order, within), ({(0, 0): one},))
                self.assertEqual(self.check(ground, 1, order, forms_of(ground, {(3,): -1, (1,): 1}, {})),
                                 forms_of(ground, {(3,): 1, (1,): -1}))

    def test_multiples_of_others(self):
        for ground in (0, 5):
            first = closed(ground, {(1, 0, 0): 1, (0, 1, 0): 2, (0, 0, 1): 1})
            for order in ORDERS:
                forms = tuple(times(ground, first, term(ground, key, 3)) for key in ((0, 0, 0), (1, 0, 0), (0, 2, 1)))
                self.assertEqual(len(self.check(ground, 3, order, forms)), 1)

    def test_the_same_basis_for_forms_told_otherwise(self):
        source = random.Random(112)
        for ground in GROUNDS:
            for order in ORDERS:
                for size in (2, 3):
                    forms = random_forms(source, ground, size, 2, 3, 3)
                    wanted = reduced_basis(ground, size, order, forms)
                    twice = [times(ground, form, term(ground, (0,) * size, 3)) for form in forms]
                    extra = times(ground, forms[0], random_form(source, ground, size, 1, 2))
                    for others in (forms[::-1], forms[1:] + forms[:1], tuple(twice), forms + (extra,), forms + ({},),
                                   (plus(ground, forms[0], times(ground, forms[-1], extra)),) + forms[1:]
                                   if len(forms) > 1 else forms * 2):
                        if all(form_rule(ground, size)[2](form) for form in others) and {} not in twice:
                            self.assertEqual(reduced_basis(ground, size, order, others), wanted)

    def test_endless_and_finite_forms_by_lex(self):
        # Both ways from one order to the other one.
        for ground in (0, 7):
            for forms in (forms_of(ground, {(2, 0, 0): 1, (0, 1, 1): 2, (0, 0, 0): 1}, {(0, 2, 0): 3, (1, 0, 1): 1}),
                          forms_of(ground, {(2, 0, 0): 1, (0, 1, 0): 2}, {(0, 2, 0): 1, (0, 0, 1): 1}, {(0, 0, 2): 1,
                                   (1, 0, 0): 1}),
                          forms_of(ground, {(1, 1, 0): 1, (0, 0, 1): -1}, {(1, 0, 1): 1, (0, 2, 0): -1})):
                self.check(ground, 3, "lex", forms)
                self.check(ground, 3, "deg", forms)

    def test_numbers_that_a_prime_divides(self):
        # The primes by which rows are learned are no reason to miss one.
        for prime in bases.LEARNED_BY:
            for forms in (forms_of(0, {(1, 0): prime, (0, 1): 1}), forms_of(0, {(2, 0): 1, (0, 1): prime}, {(1, 1): 1}),
                          ({(1, 0): ONE, (0, 1): (1, prime)}, {(1, 1): (prime, 2), (0, 3): ONE})):
                for order in ORDERS:
                    self.check(0, 2, order, forms)
        both = bases.LEARNED_BY[0] * bases.LEARNED_BY[1]
        self.check(0, 2, "lex", ({(2, 0): ONE, (0, 1): (1, both)}, {(1, 1): ONE, (0, 1): (both, 1)}))
        self.check(0, 3, "lex", ({(1, 1, 0): ONE, (0, 0, 1): (both, 1)}, {(1, 0, 1): ONE, (0, 1, 0): ONE}))

    def test_rows_that_a_prime_tells(self):
        lex = Frame(0, 3, "lex")
        deg = Frame(0, 3, "deg")
        source = random.Random(117)
        for _ in range(5):
            forms = tuple(random_form(source, 0, 3, 2, 3) for _ in range(2))
            rows = [row[0] for row in built(deg, deg.all_opened(forms)).reduced()]
            wanted = [row[0] for row in built(lex, lex.all_opened(forms)).reduced()]
            self.assertEqual(bases.learned_rows(deg, rows, lex, bases.LEARNED_BY[0]), wanted)
        prime = bases.LEARNED_BY[0]
        forms = ({(1, 1, 0): ONE, (0, 0, 1): (prime, 1)}, {(1, 0, 1): ONE, (0, 1, 0): ONE})
        rows = [row[0] for row in built(deg, deg.all_opened(forms)).reduced()]
        self.assertIsNone(bases.learned_rows(deg, rows, lex, prime))

    def test_long_integers(self):
        source = random.Random(113)
        forms = tuple({key: told(0, source.randint(-BIG, BIG)) for key in ((2, 0), (1, 1), (0, 1), (0, 0))} for _ in "ab")
        forms = tuple(closed(0, {key: number[0] for key, number in form.items()}) for form in forms)
        for order in ORDERS:
            self.check(0, 2, order, forms)
        self.check(0, 2, "lex", forms[:1])


class Rests(Case):
    def test_rests(self):
        source = random.Random(114)
        for ground in GROUNDS:
            for order in ORDERS:
                for size, most in ((1, 3), (2, 2), (3, 2)):
                    for _ in range(3):
                        forms = random_forms(source, ground, size, most)
                        rows = reduced_basis(ground, size, order, forms)
                        form = random_form(source, ground, size, 4, 4)
                        left = rest(ground, size, order, forms, form)
                        self.assertEqual(left, divided(ground, form, rows, order)[1])
                        self.assertTrue(is_ascending(left))
                        multiples = rest_multiples(ground, size, order, forms, form)
                        judge_multiples(self, ground, size, plus(ground, form, left, -1), forms, multiples)
                        self.assertTrue(is_ascending(multiples))
                        self.check_same(source, ground, size, order, forms, form, left)

    def check_same(self, source, ground, size, order, forms, form, left):
        multiples = [random_form(source, ground, size, 1, 2) for _ in forms]
        other = plus(ground, form, mixed(ground, multiples, forms))
        self.assertEqual(rest(ground, size, order, forms, other), left)
        further = plus(ground, form, term(ground, (0,) * size))
        same = rest(ground, size, order, forms, further) == left
        self.assertIs(same, reduced_basis(ground, size, order, forms) == (term(ground, (0,) * size),))

    def test_nothing_and_one(self):
        self.assertEqual(rest(0, 2, "lex", (), LINE), LINE)
        self.assertEqual(rest_multiples(0, 2, "lex", (), LINE), ())
        self.assertEqual(rest(0, 2, "lex", ({},), LINE), LINE)
        self.assertEqual(rest_multiples(0, 2, "lex", ({},), {}), ({},))
        self.assertEqual(rest(0, 2, "deg", ({(0, 0): HALF},), LINE), {})
        self.assertEqual(rest(0, 2, "deg", (LINE,), {}), {})


class Judging(Case):
    def test_values_near_bases(self):
        source = random.Random(115)
        seen = set()
        for ground in (0, 2, 5):
            for order in ORDERS:
                for size in (1, 2, 3):
                    for _ in range(12):
                        forms = tuple(form for form in random_forms(source, ground, size, 2, 2) if form)
                        rows = reduced_basis(ground, size, order, forms)
                        for value in (forms, rows, rows[1:], rows + forms[:1], rows[::-1]):
                            if len(value) <= 12 and forms_rule(ground, size)[2](value[:6]):
                                wanted = is_basis_by_pairs(ground, order, value)
                                self.assertIs(is_basis(ground, size, order, value), wanted)
                                seen.add(wanted)
                                self.assertIs(is_reduced(ground, size, order, value),
                                              wanted and self.is_reduced_by_heads(ground, order, value))
        self.assertEqual(seen, {True, False})

    def is_reduced_by_heads(self, ground, order, value):
        try:
            check_reduced(self, ground, order, value)
        except AssertionError:
            return False
        return True

    def test_each_wish_of_reduced_ones(self):
        rows = forms_of(0, {(0, 2): 1, (0, 0): 1}, {(1, 0): 1, (0, 1): 1})
        self.assertIs(is_reduced(0, 2, "lex", rows), True)
        self.assertIs(is_reduced(0, 2, "lex", rows[::-1]), False)
        self.assertIs(is_reduced(0, 2, "lex", (rows[0], times(0, rows[1], term(0, (0, 0), 2)))), False)
        self.assertIs(is_reduced(0, 2, "lex", (rows[0], plus(0, rows[1], rows[0]))), False)
        self.assertIs(is_reduced(0, 2, "lex", rows + (closed(0, {(1, 1): 1, (0, 2): 1}),)), False)
        self.assertIs(is_reduced(0, 2, "deg", ()), True)
        self.assertIs(is_reduced(0, 2, "deg", (EDGE, closed(0, {(0, 2): 1, (0, 0): -1}))), False)

    def test_heads_lead_to_all_that_is_within(self):
        # [11.1]
        source = random.Random(116)
        for order in ORDERS:
            forms = (CIRCLE, EDGE)
            tops = heads(0, 2, order, forms)
            for _ in range(20):
                form = mixed(0, [random_form(source, 0, 2, 3, 3) for _ in forms], forms)
                if form:
                    self.assertTrue(any(leads(top, head(order, form)) for top in tops))
            self.assertEqual([rank(order, top) for top in tops], sorted(rank(order, top) for top in tops))

    def test_kinds(self):
        self.assertEqual(rest(0, 2, "lex", (LINE,), {(1, 0): LESS}), {(0, 1): LESS})
