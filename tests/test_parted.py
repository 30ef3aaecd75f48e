"""Stage 16: parts of forms."""
import random
from fractions import Fraction
from itertools import combinations, permutations

from forms import closed, form_rule, head, is_ascending, plus, power, random_form, size_rule, term, times
from helping import BIG, HALF, LESS, ODD, ONE, TWO, ZERO, Case, is_integer
from judging import is_paper, put_letters, unit_key

from zeroorone import errors
from zeroorone.many.parted import form_parts_answer, parted_form_answer, shifted_form
from zeroorone.paper.checker import is_claim, opposite, takes

CIRCLE, LINE = {(2, 0): ONE, (0, 2): ONE, (0, 0): LESS}, {(1, 0): ONE, (0, 1): LESS}
BARS = {(2, 0): TWO, (0, 2): (-2, 1)}


def degree(form):
    return max([sum(key) for key in form], default=-1)


def product_of(size, parts):
    result = term(0, (0,) * size)
    for part in parts:
        result = times(0, result, part)
    return result


def monic(form):
    number = Fraction(*form[head("deg", form)])
    return closed(0, {key: Fraction(*value) / number for key, value in form.items()})


def of(size, **values):
    """A form from letters: a2b=3 is 3 a a b; n is the number without letters."""
    made = {}
    for word, value in values.items():
        key = [0] * size
        letters = word if word != "n" else ""
        for at, letter in enumerate(letters):
            if letter in "abc":
                many = letters[at + 1:at + 2]
                key["abc".index(letter)] = int(many) if many.isdigit() else 1
        made[tuple(key)] = value
    return closed(0, made)


class Examples(Case):
    def test_examples(self):
        self.assertEqual([parted_form_answer(2, CIRCLE)[0][0], parted_form_answer(2, BARS)[0][0],
                          form_parts_answer(2, BARS)[0][3:]],
                         ["unsplit form", "parted form",
                          ((2, 1), (({(0, 1): (-1, 1), (1, 0): (1, 1)}, 1), ({(0, 1): (1, 1), (1, 0): (1, 1)}, 1)))])
        self.assertEqual(shifted_form(2, {(1, 1): ONE}, (1,)), {(1, 1): (1, 1), (2, 0): (1, 1)})


class Refusals(Case):
    def test_refusals(self):
        start = (size_rule(), form_rule(0, 2))
        for call in (parted_form_answer, form_parts_answer):
            self.check_refusals(call, (2, CIRCLE), start)
        shifts = (errors.InvalidOperation, None, lambda value: isinstance(value, tuple) and len(value) == 1
                  and is_integer(value[0]) and abs(value[0]) <= 1000)
        self.check_refusals(shifted_form, (2, CIRCLE, (1,)), start + (shifts,))

    def test_errors_that_come_then(self):
        for call in (parted_form_answer, form_parts_answer):
            self.refuses(errors.InvalidOperation, call, 2, {})
            self.assertEqual(self.refuses(errors.TooMany, call, 2, {(5, 0): ONE}).limit, 4)
            self.assertEqual(self.refuses(errors.TooMany, call, 1, {(12,): ONE}).limit, 4)
            self.refuses(errors.InvalidForm, call, 1, {(13,): ONE})
            self.refuses(errors.InvalidNumber, call, 4, {(5, 0, 0, 0): ONE})
            self.assertIn(call(2, {(4, 0): ONE})[0][0], ("parted form", "form parts"))
        self.refuses(errors.InvalidOperation, parted_form_answer, 2, {(0, 0): TWO})
        self.assertEqual(form_parts_answer(2, {(0, 0): HALF}), (("form parts", 2, {(0, 0): HALF}, HALF, ()), ()))

    def test_shifts(self):
        for good in ((1000,), (-1000,), (0,)):
            shifted_form(2, CIRCLE, good)
        for wrong in ((1001,), (-1001,), (), (1, 1), [1], 1, (True,), (ONE,), (None,)):
            self.refuses(errors.InvalidOperation, shifted_form, 2, CIRCLE, wrong)
        self.assertEqual(shifted_form(1, {(3,): ONE}, ()), {(3,): ONE})
        self.refuses(errors.InvalidOperation, shifted_form, 1, {(3,): ONE}, (1,))
        self.assertEqual(shifted_form(3, {}, (1, 2)), {})


class Shifted(Case):
    def test_there_and_back(self):
        source = random.Random(1)
        for _ in range(40):
            size = source.randint(1, 3)
            form = random_form(source, 0, size, source.randint(1, 5), 5)
            shifts = tuple(source.randint(-3, 3) for _ in range(size - 1))
            found = shifted_form(size, form, shifts)
            letters = [term(0, unit_key(size, 0))] + [
                plus(0, term(0, unit_key(size, i + 1)), term(0, unit_key(size, 0), shift)) for i, shift in enumerate(shifts)]
            self.assertEqual(found, put_letters(size, form, letters))
            self.assertTrue(is_ascending(found))
            self.assertEqual(shifted_form(size, found, tuple(-x for x in shifts)), form)


class Answers(Case):
    def check(self, answer):
        claim, paper = answer
        self.assertTrue(is_ascending(answer) and is_claim(claim) and takes(claim, paper), claim)
        self.assertTrue(is_paper(claim, paper), claim)
        other = opposite(claim)
        if other is not None:
            self.assertFalse(takes(other, paper))
        return claim

    def parts(self, size, form):
        claim = self.check(form_parts_answer(size, form))
        self.assertEqual(claim[:3], ("form parts", size, form))
        many = sum(e for _, e in claim[4])
        kind = self.check(parted_form_answer(size, form))[0]
        self.assertEqual(kind, "parted form" if many > 1 else "unsplit form")
        return claim[3], claim[4]

    def check_product(self, size, known, number=1):
        """Known unsplit forms, some of them more than once."""
        form = times(0, product_of(size, known), term(0, (0,) * size, number))
        wanted = {}
        for part in known:
            key = tuple(sorted(monic(part).items()))
            wanted[key] = wanted.get(key, 0) + 1
        front, rows = self.parts(size, form)
        self.assertEqual({tuple(sorted(part.items())): many for part, many in rows}, wanted)
        self.assertEqual([(degree(part), tuple(sorted(part.items()))) for part, _ in rows],
                         sorted((degree(part), tuple(sorted(part.items()))) for part, _ in rows))
        self.assertEqual(front, form[head("deg", form)])

    def test_known_parts(self):
        one = [of(1, a=1, n=-1), of(1, a=1, n=2), of(1, a2=1, n=1), of(1, a=2, n=1), of(1, a2=1, n=-2)]
        two = [of(2, a=1, b=1), of(2, a=1, b=-1), of(2, b=1, n=1), of(2, a=1), of(2, a2=1, b2=1), of(2, a2=1, b=-1),
               of(2, ab=1, n=1), of(2, a=2, b=3, n=-1)]
        three = [of(3, a=1, b=1, c=1), of(3, c=1), of(3, ab=1, c=-1), of(3, a2=1, b2=1, c2=1), of(3, b=1, c=-2, n=1)]
        source = random.Random(2)
        for size, forms in ((1, one), (2, two), (3, three)):
            for form in forms:
                self.check_product(size, [form], source.choice((1, -3, Fraction(1, 2))))
            for pair in combinations(forms, 2):
                self.check_product(size, list(pair), source.choice((1, 2, Fraction(-1, 3))))
            for form in forms:
                self.check_product(size, [form, form])
        for row in permutations([two[0], two[0], two[2]]):
            self.check_product(2, list(row))
        self.check_product(2, [two[0]] * 4, 5)
        self.check_product(2, [two[1], two[1], two[2], two[2]])
        self.check_product(3, [three[0], three[0], three[1], three[4]], Fraction(7, 5))
        self.check_product(3, [three[1]] * 3 + [three[4]])
        self.check_product(1, [one[0]] * 2 + [one[2]])

    def test_unsplit_ones_whose_image_is_parted(self):
        found = []
        for size, form in (
            (2, CIRCLE), (2, of(2, a2=1, b=-1)), (2, of(2, a2=1, b=-1, n=-1)), (2, of(2, a4=1, b4=1)),
            (2, of(2, a4=1, b2=-1, n=1)), (2, of(2, a3=1, b3=-1, n=2)), (3, of(3, a2=1, b2=-1, c2=1)),
            (3, of(3, a2=1, b2=-1, c=1)), (3, of(3, ab=1, c2=1)), (2, of(2, a4=1, b=1)), (2, of(2, ab=1, n=1)),
            (3, of(3, a2b2=1, c=1)), (2, of(2, a4=1, a2=-5, n=4, b=1)), (1, of(1, a4=1, n=1)), (2, of(2, a2b2=1, n=-2)),
        ):
            number, rows = self.parts(size, form)
            self.assertEqual(rows, ((monic(form), 1),))
            claim, paper = parted_form_answer(size, form)
            found.append(len(paper[2]))
            if len(paper[2]) > 1:
                # Any one of the conditions spoilt makes it no paper.
                for wrong in (paper[:4] + (paper[4][::-1],), paper[:2] + (paper[2][::-1],) + paper[3:],
                              paper[:2] + (paper[2][1:], paper[3][1:], paper[4][1:])):
                    self.assertIs(takes(claim, wrong), is_paper(claim, wrong))
        self.assertGreater(max(found), 1)

    def test_not_true(self):
        # [16.9]: a a + b b is unsplit, but is a product modulo 5.
        self.assertEqual(parted_form_answer(2, of(2, a2=1, b2=1))[0][0], "unsplit form")
        self.assertEqual(parted_form_answer(2, of(2, a2=1, b2=-1))[0][0], "parted form")
        self.assertEqual(times(5, {(1, 0): 1, (0, 1): 2}, {(1, 0): 1, (0, 1): 3}), {(0, 2): 1, (2, 0): 1})

    def test_top_parts_that_are_0_for_small_integers(self):
        # For a = 1 and b = 0, 1, 2, 3 the top part is 0.
        lines = [of(2, b=1), of(2, b=1, a=-1), of(2, b=1, a=-2), of(2, b=1, a=-3)]
        self.check_product(2, lines)
        form = plus(0, product_of(2, lines), {(0, 0): ONE})
        number, rows = self.parts(2, form)
        self.assertEqual(len(rows), 1)
        self.assertEqual(parted_form_answer(2, form)[1][0], (4,))
        form = plus(0, product_of(3, [of(3, b=1), of(3, c=1), of(3, b=1, c=-1), of(3, b=1, a=-1)]), of(3, a=1))
        self.assertEqual(len(self.parts(3, form)[1]), 1)

    def test_random_products(self):
        source = random.Random(3)
        tried = 0
        while tried < 50:
            size = source.randint(1, 3)
            forms = [random_form(source, 0, size, source.randint(1, 2), 3, 3) for _ in range(source.randint(1, 3))]
            forms += forms[:1] * (source.random() < 0.3)
            form = product_of(size, forms)
            if degree(form) < 1 or degree(form) > 4:
                continue
            tried += 1
            number, rows = self.parts(size, form)
            whole = {(0,) * size: number}
            for part, many in rows:
                whole = times(0, whole, power(0, size, part, many))
            self.assertEqual(whole, form)
            self.assertGreaterEqual(sum(e for _, e in rows), sum(degree(one) >= 1 for one in forms))

    def test_parts_are_alike_in_one_letter(self):
        from zeroorone.letter.lifted import fraction_parts
        source = random.Random(4)
        for _ in range(40):
            form = random_form(source, 0, 1, 4, 4, 6)
            if degree(form) < 1:
                continue
            poly = tuple(form.get((k,), ZERO) for k in range(degree(form) + 1))
            wanted = [({(k,): n for k, n in enumerate(part) if n != ZERO}, many) for part, many in fraction_parts(poly)]
            rows = self.parts(1, form)[1]
            self.assertEqual(sorted(map(str, rows)), sorted(map(str, wanted)))

    def test_long_numbers(self):
        long = Fraction(10 ** 58 + 1, 10 ** 58 + 3)
        self.check_product(2, [of(2, a=1, b=long), of(2, a=1, b=1, n=1)])
        self.parts(2, of(2, a2=BIG, b2=1, n=-BIG))
        self.parts(3, of(3, a2=Fraction(1, BIG), bc=1))

    def test_claims(self):
        for value in ODD:
            self.assertFalse(is_claim(("parted form", 2, value)) and not isinstance(value, dict))
        part, other = of(2, a=1, b=-1), of(2, a=1, b=1)
        good = ("form parts", 2, BARS, TWO, ((part, 1), (other, 1)))
        self.assertTrue(is_claim(good))
        for wrong in (("form parts", 2, BARS, ONE, ((part, 1), (other, 1))),
                      ("form parts", 2, BARS, TWO, ((other, 1), (part, 1))),
                      ("form parts", 2, BARS, TWO, ((part, 2),)), ("form parts", 2, BARS, TWO, ((part, 1), (part, 1))),
                      ("form parts", 2, BARS, TWO, ((part, 1), (other, 1), (other, 0))), ("form parts", 2, {}, TWO, ()),
                      ("form parts", 2, {}, ZERO, ()), ("form parts", 2, BARS, (8, 1), (
                          ({key: (n[0], 2) for key, n in part.items()}, 1), ({key: (n[0], 2) for key, n in other.items()}, 1))),
                      ("form parts", 2, {(0, 0): TWO}, ONE, (({(0, 0): TWO}, 1),))):
            self.assertFalse(is_claim(wrong), wrong)
        self.assertTrue(is_claim(("form parts", 2, {(0, 0): TWO}, TWO, ())))

    def test_degrees_that_claims_let(self):
        # [16.1]: (n + 1) ** size is at most 10 ** 5.
        for size, most in ((1, 10 ** 4), (2, 315), (3, 45), (4, 16)):
            key = (most,) + (0,) * (size - 1)
            self.assertTrue(is_claim(("parted form", size, {key: ONE})))
            self.assertFalse(is_claim(("parted form", size, {(most + 1,) + key[1:]: ONE})))
            rest = {(most - 1,) + key[1:]: ONE}
            self.assertTrue(takes(("parted form", size, {key: ONE}), ({(1,) + key[1:]: ONE}, rest)))
            self.assertTrue(is_claim(("form parts", size, {key: ONE}, ONE, (({(1,) + key[1:]: ONE}, most),))))
