"""Stage 12: what is within."""
import random
from itertools import combinations, product

from forms import are_forms, check_reduced, closed, common_key, divided, form_rule, forms_rule, head, is_ascending
from forms import judge_basis, judge_multiples, leads, mixed, opened, plus, random_form, size_rule, term, times
from helping import GROUND, HALF, ONE, TWO, Case, between, told

from zeroorone import errors
from zeroorone.many.bases import basis_answer, reduced_basis
from zeroorone.many.within import free_answer, lots_answer, meet_answer, quotient_answer, taken_out_answer
from zeroorone.many.within import within_answer

GROUNDS = (0, 2, 5, 9973)
CIRCLE, LINE = {(2, 0): ONE, (0, 2): ONE, (0, 0): (-1, 1)}, {(1, 0): ONE, (0, 1): (-1, 1)}
DOUBLE, A, B = {(0, 0): (-1, 1), (0, 2): TWO}, {(1, 0): ONE}, {(0, 1): ONE}


def forms_of(ground, *values):
    return tuple(closed(ground, value) for value in values)


def rest_of(ground, form, basis):
    return divided(ground, form, basis, "deg")[1]


def random_forms(source, ground, size, most=2, terms=3, many=2):
    return tuple(random_form(source, ground, size, most, terms, 3) for _ in range(source.randint(1, many)))


def judge_within(case, claim, paper):
    """[12.1]"""
    kind, ground, size, form, gens = claim
    case.assertTrue(is_ascending((claim, paper)))
    if kind == "within":
        judge_multiples(case, ground, size, form, gens, paper)
        return
    case.assertEqual(kind, "outside")
    order, rows, basis_paper, quotients, rest = paper
    judge_basis(case, ground, size, order, gens, rows, basis_paper)
    case.assertTrue(are_forms(ground, size, quotients, len(rows)) and are_forms(ground, size, (rest,)) and rest != {})
    case.assertEqual(plus(ground, mixed(ground, quotients, rows), rest), form)
    case.assertFalse(any(leads(head(order, row), head(order, rest)) for row in rows))


def judge_lots(case, claim, paper):
    """[12.2]"""
    kind, ground, size, gens, others = claim
    case.assertTrue(is_ascending((claim, paper)))
    if kind == "same lot":
        there, back = paper
        for forms, told_forms, multiples in ((gens, others, there), (others, gens, back)):
            case.assertTrue(isinstance(multiples, tuple) and len(forms) == len(multiples))
            for form, told_multiples in zip(forms, multiples):
                judge_multiples(case, ground, size, form, told_forms, told_multiples)
        return
    case.assertEqual(kind, "unlike lots")
    side, place, outside = paper
    first, second = (gens, others) if side == 0 else (others, gens)
    case.assertTrue(side in (0, 1) and 0 <= place < len(first))
    judge_within(case, ("outside", ground, size, first[place], second), outside)


def judge_taken_out(case, claim, paper):
    """[12.3]"""
    kind, ground, size, gens, many, found = claim
    rows, basis_paper = paper
    case.assertTrue(kind == "taken out" and 0 <= many <= size and is_ascending((claim, paper)))
    judge_basis(case, ground, size, "lex", gens, rows, basis_paper)
    case.assertEqual(found, tuple(row for row in rows if not any(any(key[:many]) for key in row)))


def judge_meet(case, claim, paper):
    """[12.4]"""
    kind, ground, size, gens, others, found = claim
    case.assertEqual(kind, "meet")
    letter = term(ground, (1,) + (0,) * size)
    raised = [[{(0,) + key: number for key, number in form.items()} for form in forms] for forms in (gens, others)]
    mixed_forms = [times(ground, letter, form) for form in raised[0]]
    mixed_forms += [plus(ground, form, times(ground, letter, form), -1) for form in raised[1]]
    later = tuple({(0,) + key: number for key, number in form.items()} for form in found)
    judge_taken_out(case, ("taken out", ground, size + 1, tuple(mixed_forms), 1, later), paper)
    check_reduced(case, ground, "lex", found)


def judge_quotient(case, claim, paper):
    """[12.5]"""
    kind, ground, size, gens, form, found = claim
    rows, meet, divided, basis_paper = paper
    case.assertTrue(kind == "quotient" and form != {} and are_forms(ground, size, rows + divided))
    judge_meet(case, ("meet", ground, size, gens, (form,), rows), meet)
    case.assertEqual(len(rows), len(divided))
    for row, share in zip(rows, divided):
        case.assertEqual(times(ground, form, share), row)
    judge_basis(case, ground, size, "lex", divided, found, basis_paper)


def greatest_free(size, heads):
    greatest = -1
    for many in range(size + 1):
        for letters in combinations(range(size), many):
            if not any(all(not x or at in letters for at, x in enumerate(key)) for key in heads):
                greatest = many
    return greatest


def judge_free(case, claim, paper):
    """[12.6]"""
    kind, ground, size, gens, n = claim
    rows, basis_paper = paper
    case.assertTrue(kind == "free" and is_ascending((claim, paper)))
    judge_basis(case, ground, size, "deg", gens, rows, basis_paper)
    case.assertEqual(n, greatest_free(size, [head("deg", row) for row in rows]))


class Examples(Case):
    def test_examples(self):
        self.assertEqual(within_answer(0, 2, DOUBLE, (CIRCLE, LINE))[0][0], "within")
        self.assertEqual(within_answer(0, 2, A, (CIRCLE, LINE))[0][0], "outside")
        self.assertEqual(lots_answer(0, 2, (CIRCLE, LINE), (DOUBLE, LINE))[0][0], "same lot")
        self.assertEqual(lots_answer(0, 2, (CIRCLE, LINE), (CIRCLE,))[0][0], "unlike lots")
        self.assertEqual(taken_out_answer(0, 2, (CIRCLE, LINE), 1)[0][-1], ({(0, 0): (-1, 2), (0, 2): (1, 1)},))
        self.assertEqual(meet_answer(0, 2, (A,), (B,))[0][-1], ({(1, 1): (1, 1)},))
        self.assertEqual(quotient_answer(0, 2, ({(1, 1): TWO},), A)[0][-1], ({(0, 1): (1, 1)},))
        for forms, n in (((CIRCLE, LINE), 0), (({(1, 1): ONE},), 1), ((), 2), (({(0, 0): ONE},), -1)):
            claim, paper = free_answer(0, 2, forms)
            self.assertEqual(claim[-1], n)
            judge_free(self, claim, paper)

    def test_what_is_not_true(self):
        # [12.7]
        square = {(2, 0): ONE}
        self.assertEqual(within_answer(0, 2, square, (square,))[0][0], "within")
        self.assertEqual(within_answer(0, 2, A, (square,))[0][0], "outside")
        self.assertEqual(meet_answer(0, 2, (A,), (A,))[0][-1], (A,))
        self.assertEqual(free_answer(0, 3, forms_of(0, {(1, 1, 0): 1}, {(1, 0, 1): 1}))[0][-1], 2)


class Refusals(Case):
    def test_refusals(self):
        for ground in (0, 5):
            form = {(1, 0): told(ground, 1)}
            start, single, forms = (GROUND, size_rule()), form_rule(ground, 2), forms_rule(ground, 2)
            self.check_refusals(within_answer, (ground, 2, form, (form,)), start + (single, forms))
            for call in (lots_answer, meet_answer):
                self.check_refusals(call, (ground, 2, (form,), (form,)), start + (forms, forms))
            self.check_refusals(taken_out_answer, (ground, 2, (form,), 1), start + (forms, between(0, 2)))
            self.check_refusals(quotient_answer, (ground, 2, (form,), form), start + (forms, single))
            self.check_refusals(free_answer, (ground, 2, (form,)), start + (forms,))

    def test_bounds(self):
        top = {(12,): ONE}
        for many in (-1, 2, True, None, (0,)):
            caught = self.refuses(errors.InvalidNumber, taken_out_answer, 0, 1, (top,), many)
            self.assertEqual(caught.given, many)
        for many in (0, 3):
            taken_out_answer(0, 3, (), many)
        self.refuses(errors.InvalidNumber, taken_out_answer, 0, 3, (), 4)
        self.refuses(errors.InvalidForm, taken_out_answer, 0, 1, (top,) * 7, 9)
        for call in (lots_answer, meet_answer):
            self.assertEqual(call(0, 1, (top,) * 6, (top,) * 6)[0][2:4], (1, (top,) * 6))
            self.refuses(errors.InvalidForm, call, 0, 1, (top,), (top,) * 7)
            self.refuses(errors.InvalidForm, call, 0, 1, ({(13,): ONE},), (top,))
        self.refuses(errors.InvalidNumber, free_answer, 0, 4, ())

    def test_errors_that_come_last(self):
        self.assertEqual(self.refuses(errors.Refused, quotient_answer, 0, 2, (A,), {}).reason, ("zero",))
        self.refuses(errors.InvalidForm, quotient_answer, 0, 2, ({(1,): ONE},), {})
        self.refuses(errors.InvalidForm, quotient_answer, 0, 2, (A,), {(0, 0): (0, 1)})


class Within(Case):
    def check(self, ground, size, form, forms):
        claim, paper = within_answer(ground, size, form, forms)
        self.assertEqual(claim[1:], (ground, size, form, forms))
        judge_within(self, claim, paper)
        return claim[0]

    def test_known_multiples(self):
        source = random.Random(121)
        for ground in GROUNDS:
            for size, most in ((1, 3), (2, 3), (3, 2)):
                for _ in range(4):
                    forms = random_forms(source, ground, size, most, 3, 3)
                    form = mixed(ground, [random_form(source, ground, size, 2, 3) for _ in forms], forms)
                    self.assertEqual(self.check(ground, size, form, forms), "within")

    def test_places_at_which_all_others_are_0(self):
        source = random.Random(122)
        for ground in GROUNDS:
            for size in (1, 2, 3):
                for _ in range(4):
                    place = [source.randint(0, 3) for _ in range(size)]
                    forms = tuple(self.at_0(source, ground, size, place) for _ in range(2))
                    form = plus(ground, self.at_0(source, ground, size, place), term(ground, (0,) * size))
                    self.assertEqual(self.check(ground, size, form, forms), "outside")

    def at_0(self, source, ground, size, place):
        form = random_form(source, ground, size, 2, 3, 3)
        value = 0
        for key, number in opened(ground, form).items():
            for entry, exponent in zip(place, key):
                number = number * entry ** exponent
            value += number
        return plus(ground, form, term(ground, (0,) * size, value), -1)

    def test_nothing_and_one(self):
        self.assertEqual(self.check(0, 2, {}, ()), "within")
        self.assertEqual(self.check(0, 2, {}, ({},)), "within")
        self.assertEqual(self.check(0, 2, A, ()), "outside")
        self.assertEqual(self.check(0, 2, A, ({},)), "outside")
        self.assertEqual(self.check(0, 2, A, ({(0, 0): HALF},)), "within")

    def test_claims_have_ascending_keys(self):
        form = {(1, 0): ONE, (0, 0): ONE}
        self.assertTrue(is_ascending(within_answer(0, 2, form, (form,))))
        self.assertTrue(is_ascending(lots_answer(0, 2, (form,), (form, {(2, 0): ONE, (1, 0): ONE}))))
        self.assertEqual(list(form), [(1, 0), (0, 0)])


class Lots(Case):
    def check(self, ground, size, forms, others):
        claim, paper = lots_answer(ground, size, forms, others)
        self.assertEqual(claim[1:], (ground, size, forms, others))
        judge_lots(self, claim, paper)
        return claim[0], paper

    def test_the_same_forms_told_otherwise(self):
        source = random.Random(123)
        for ground in GROUNDS:
            for size in (1, 2, 3):
                for _ in range(3):
                    forms = random_forms(source, ground, size)
                    extra = mixed(ground, [random_form(source, ground, size, 1, 2) for _ in forms], forms)
                    basis = reduced_basis(ground, size, "lex", forms)
                    for others in (forms[::-1], forms + (extra,), (plus(ground, forms[0], extra),) + forms):
                        self.assertEqual(self.check(ground, size, forms, others)[0], "same lot")
                    if forms_rule(ground, size)[2](basis):
                        self.assertEqual(self.check(ground, size, basis, forms)[0], "same lot")

    def test_unlike_lots(self):
        for ground in GROUNDS:
            a, b, one = forms_of(ground, {(1, 0): 1}, {(0, 1): 1}, {(0, 0): 1})
            square = times(ground, a, a)
            for forms, others, side, place in (((a,), (square,), 0, 0), ((square,), (a,), 1, 0), ((a,), (a, b), 1, 1),
                                               ((), (a,), 1, 0), ((one,), (a, b), 0, 0), ((b, a), (b,), 0, 1)):
                kind, paper = self.check(ground, 2, forms, others)
                self.assertEqual((kind, paper[:2]), ("unlike lots", (side, place)))
        self.assertEqual(self.check(0, 2, (), ({},))[0], "same lot")
        self.assertEqual(self.check(0, 2, (), ())[0], "same lot")


class TakenOut(Case):
    def check(self, ground, size, forms, many):
        claim, paper = taken_out_answer(ground, size, forms, many)
        self.assertEqual(claim[:5], ("taken out", ground, size, forms, many))
        judge_taken_out(self, claim, paper)
        return claim[-1]

    def test_papers(self):
        source = random.Random(124)
        for ground in GROUNDS:
            for size in (1, 2, 3):
                forms = random_forms(source, ground, size, 2, 3, 3)
                for many in range(size + 1):
                    self.check(ground, size, forms, many)

    def test_no_letter_and_all_letters(self):
        self.assertEqual(self.check(0, 2, (CIRCLE, LINE), 0), basis_answer(0, 2, "lex", (CIRCLE, LINE))[0][5])
        self.assertEqual(self.check(0, 2, (CIRCLE, LINE), 2), ())
        self.assertEqual(self.check(0, 2, (A, {(1, 0): ONE, (0, 0): ONE}), 2), ({(0, 0): ONE},))
        self.assertEqual(self.check(0, 2, (), 1), ())
        # A form with the letter alone in a key behind its head stays away.
        self.assertEqual(self.check(0, 2, forms_of(0, {(1, 0): 1, (0, 1): 1}), 1), ())

    def test_a_curve(self):
        for ground in (0, 9973):
            forms = forms_of(ground, {(1, 0, 0): 1, (0, 0, 2): -1}, {(0, 1, 0): 1, (0, 0, 3): -1})
            self.assertEqual(self.check(ground, 3, forms, 2), ())
            turned = forms_of(ground, {(0, 1, 0): 1, (2, 0, 0): -1}, {(0, 0, 1): 1, (3, 0, 0): -1})
            self.assertEqual(self.check(ground, 3, turned, 1), forms_of(ground, {(0, 3, 0): 1, (0, 0, 2): -1}))


class Meets(Case):
    def check(self, ground, size, forms, others):
        claim, paper = meet_answer(ground, size, forms, others)
        self.assertEqual(claim[:5], ("meet", ground, size, forms, others))
        judge_meet(self, claim, paper)
        return claim[-1]

    def test_terms_by_common_multiples(self):
        source = random.Random(125)
        for ground in GROUNDS:
            for size in (1, 2, 3):
                for _ in range(3):
                    keys = [[tuple(source.randint(0, 3) for _ in range(size)) for _ in range(source.randint(1, 3))]
                            for _ in "ab"]
                    forms, others = [tuple(term(ground, key, 2 if ground != 2 else 1) for key in lot) for lot in keys]
                    both = {common_key(one, other) for one, other in product(*keys)}
                    least = sorted(key for key in both if not any(lower != key and leads(lower, key) for lower in both))
                    self.assertEqual(self.check(ground, size, forms, others), tuple(term(ground, key) for key in least))

    def test_papers(self):
        source = random.Random(126)
        for ground in GROUNDS:
            for size in (1, 2, 2, 3):
                for _ in range(3):
                    forms, others = random_forms(source, ground, size, 2, 2), random_forms(source, ground, size, 2, 2)
                    found = self.check(ground, size, forms, others)
                    for form in found:
                        for gens in (forms, others):
                            basis = reduced_basis(ground, size, "deg", gens)
                            self.assertEqual(rest_of(ground, form, basis), {})

    def test_products_of_forms_without_a_common_part(self):
        one, other = forms_of(0, {(2, 0, 0): 1, (0, 1, 0): 1}, {(0, 1, 1): 1, (0, 0, 0): 2})
        self.assertEqual(self.check(0, 3, (one,), (other,)), (times(0, one, other),))
        self.assertEqual(self.check(0, 3, (one,), (times(0, one, other),)), (times(0, one, other),))
        self.assertEqual(self.check(7, 2, (closed(7, {(1, 0): 3}),), (closed(7, {(0, 0): 5}),)),
                         (closed(7, {(1, 0): 1}),))

    def test_little_forms(self):
        self.assertEqual(self.check(0, 2, (), (A,)), ())
        self.assertEqual(self.check(0, 2, (A, {}), ({},)), ())
        self.assertEqual(self.check(0, 2, (), ()), ())
        self.assertEqual(self.check(0, 2, ({(0, 0): ONE},), (A, B)), (B, A))


class Quotients(Case):
    def check(self, ground, size, forms, form):
        claim, paper = quotient_answer(ground, size, forms, form)
        self.assertEqual(claim[:5], ("quotient", ground, size, forms, form))
        judge_quotient(self, claim, paper)
        return claim[-1]

    def test_terms_by_exponents(self):
        source = random.Random(127)
        for ground in GROUNDS:
            for size in (1, 2, 3):
                for _ in range(3):
                    keys = [tuple(source.randint(0, 3) for _ in range(size)) for _ in range(source.randint(1, 3))]
                    lower = tuple(source.randint(0, 2) for _ in range(size))
                    left = {tuple(max(x - y, 0) for x, y in zip(key, lower)) for key in keys}
                    least = sorted(key for key in left if not any(one != key and leads(one, key) for one in left))
                    found = self.check(ground, size, tuple(term(ground, key) for key in keys), term(ground, lower, 3))
                    self.assertEqual(found, tuple(term(ground, key) for key in least))

    def test_papers(self):
        source = random.Random(128)
        for ground in GROUNDS:
            for size in (1, 2, 3):
                for _ in range(3):
                    forms = random_forms(source, ground, size, 2, 2)
                    form = random_form(source, ground, size, 2, 2)
                    found = self.check(ground, size, forms, form)
                    basis = reduced_basis(ground, size, "deg", forms)
                    for one in found:
                        self.assertEqual(rest_of(ground, times(ground, one, form), basis), {})

    def test_known_quotients(self):
        self.assertEqual(self.check(0, 2, (times(0, CIRCLE, LINE),), LINE), (CIRCLE,))
        self.assertEqual(self.check(0, 2, (CIRCLE, LINE), DOUBLE), ({(0, 0): ONE},))
        self.assertEqual(self.check(0, 2, (), LINE), ())
        self.assertEqual(self.check(0, 2, ({},), LINE), ())
        self.assertEqual(self.check(0, 2, (CIRCLE,), {(0, 0): HALF}), (CIRCLE,))


class Free(Case):
    def check(self, ground, size, forms, n):
        claim, paper = free_answer(ground, size, forms)
        self.assertEqual(claim, ("free", ground, size, forms, n))
        judge_free(self, claim, paper)

    def test_papers(self):
        source = random.Random(129)
        for ground in GROUNDS:
            for size in (1, 2, 3):
                for _ in range(4):
                    claim, paper = free_answer(ground, size, random_forms(source, ground, size, 2, 3, 3))
                    judge_free(self, claim, paper)

    def test_known_numbers(self):
        for ground in GROUNDS:
            for size in (1, 2, 3):
                self.check(ground, size, (), size)
                self.check(ground, size, ({},), size)
                self.check(ground, size, (term(ground, (0,) * size),), -1)
                self.check(ground, size, (term(ground, (2,) + (0,) * (size - 1)),), size - 1)
                letters = [tuple(int(at == k) for at in range(size)) for k in range(size)]
                self.check(ground, size, tuple(term(ground, key) for key in letters), 0)
            self.check(ground, 3, forms_of(ground, {(1, 1, 0): 1}, {(1, 0, 1): 1}), 2)
            self.check(ground, 3, forms_of(ground, {(1, 1, 0): 1}, {(1, 0, 1): 1}, {(0, 1, 1): 1}), 1)
            self.check(ground, 3, forms_of(ground, {(1, 0, 0): 1, (0, 0, 2): -1}, {(0, 1, 0): 1, (0, 0, 3): -1}), 1)
