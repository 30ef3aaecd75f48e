"""Stage 20: texts."""
import random
from fractions import Fraction

from forms import form_rule, random_form, size_rule
from helping import BIG, GROUND, HALF, LESS, ODD, ONE, TWO, ZERO, Case, nested, number_rule, told
from polys import poly_rule, random_poly
from sampling import answers, near
from test_book import SPLIT, good_book

from zeroorone import errors
from zeroorone.book.book import Book
from zeroorone.text.shell import Shell
from zeroorone.text.texts import book_text, form_text, number_text, poly_text, read_book, read_form, read_number
from zeroorone.text.texts import read_poly, read_value, value_text

GROUNDS = (0, 2, 3, 5, 9973)
SQUARE_TWO = ((-2, 1), ZERO, ONE)
LINE = {(1, 0): ONE, (0, 1): LESS}
SIGNS = "+-*/^ 0123456789abcdxyz.,()\n"


def told_number_text(ground, number):
    return str(number) if ground else str(Fraction(*number))


def told_text(ground, terms):
    """The text of [20.1], of (number, letters) with the greatest first."""
    result = ""
    for number, letters in terms:
        text = told_number_text(ground, number)
        powers = "*".join(letter if k == 1 else f"{letter}^{k}" for letter, k in letters if k)
        if powers:
            text = {"1": "", "-1": "-"}.get(text, text + "*") + powers
        result += text if text[0] == "-" or not result else "+" + text
    return result or "0"


def told_poly(ground, poly):
    return told_text(ground, [(n, [("x", k)]) for k, n in reversed(list(enumerate(poly))) if n not in (0, ZERO)])


def told_form(ground, form):
    keys = sorted(form, key=lambda key: (sum(key), key), reverse=True)
    return told_text(ground, [(form[key], list(zip("abc", key))) for key in keys])


def one_sign_away(text):
    """Texts with one sign left out, put in, doubled, or exchanged with the next."""
    for at in range(len(text) + 1):
        for sign in SIGNS:
            yield text[:at] + sign + text[at:]
        yield text[:at] + text[at:at + 1] + text[at:]
        yield text[:at] + text[at + 1:]
        yield text[:at] + text[at + 1:at + 2] + text[at:at + 1] + text[at + 2:]


class Examples(Case):
    def test_examples(self):
        self.assertEqual(
            [poly_text(0, SQUARE_TWO), poly_text(5, (4, 0, 1, 2)),
             form_text(0, 3, {(1, 1, 0): (-1, 1), (0, 0, 2): HALF}), form_text(7, 1, {}), value_text(("split", 91))],
            ["x^2-2", "2*x^3+x^2+4", "-a*b+1/2*c^2", "0", '("split" 91)'])
        self.assertEqual([read_form(0, 2, "a-b") == LINE, read_value("(none {(0 1):(-1 2)} ())")],
                         [True, (None, {(0, 1): (-1, 2)}, ())])
        self.assertIsNone(self.refuses(errors.ParseError, read_poly, 0, "x^2 - 2").spot)
        self.assertEqual(book_text(Shell().book()), "")


class Refusals(Case):
    def test_texts(self):
        for ground in (0, 5):
            one = told(ground, 1)
            self.check_refusals(number_text, (ground, one), (GROUND, number_rule(ground)))
            self.check_refusals(poly_text, (ground, (one,)), (GROUND, poly_rule(ground)))
            self.check_refusals(form_text, (ground, 2, {(1, 0): one}), (GROUND, size_rule(), form_rule(ground, 2)))

    def test_reading(self):
        text = (errors.ParseError, None, lambda value: False)
        self.check_refusals(read_number, (0, "1"), (GROUND, text))
        self.check_refusals(read_poly, (0, "x"), (GROUND, text))
        self.check_refusals(read_form, (0, 2, "a"), (GROUND, size_rule(), text))
        for value in ODD:
            for call in (read_value, read_book):
                if value != "" or call == read_value:
                    spot = self.refuses(errors.ParseError, call, value).spot
                    self.assertIs(spot, 0 if call == read_book and isinstance(value, str) else None)
            for call, args in ((read_number, (5,)), (read_poly, (5,)), (read_form, (5, 2))):
                self.assertIsNone(self.refuses(errors.ParseError, call, *args, value).spot)

    def test_values(self):
        for value in (1.5, [], [1], "A", "a1", "-", "\u00e4", "a\n", "a" * 4001, {1: 2}, {"a": 1}, {(True,): 1}, {("a",): 1},
                      {(1,): [1]}, ((), [1]), {((1,),): 1}, Book(), errors.Refused(1), {None: 1}, ("a", ("b", "C"))):
            self.refuses(errors.InvalidOperation, value_text, value)
        for value in ODD + [Shell(), good_book().rows(), Book]:
            self.refuses(errors.InvalidOperation, book_text, value)


class Numbers(Case):
    def test_numbers(self):
        for ground in GROUNDS:
            numbers = range(min(ground, 300)) if ground else [
                ZERO, ONE, LESS, TWO, HALF, (-1, 2), (-7, 3), (BIG, 1), (1, BIG), (-BIG, BIG - 1), (10, 7), (100, 1)]
            for number in numbers:
                text = number_text(ground, number)
                self.assertEqual((text, read_number(ground, text)), (told_number_text(ground, number), number))

    def test_no_texts_of_numbers(self):
        for text in ("", "-", "+1", "01", "-0", "1/1", "2/4", "1/0", "0/2", "1/-2", "1/", "/2", "1/2/3", " 1", "1 ", "1.0",
                     "--1", "1/02", "x", "None", "1_0", "\u0661", "1\n", "1e3", str(BIG + 1), "1/" + str(BIG + 1), "0/1",
                     "-" + str(BIG + 1), "1" * 5000, "/", "1/+2", "-1/-2"):
            self.assertIsNone(self.refuses(errors.ParseError, read_number, 0, text).spot)
        for text in ("5", "-1", "1/2", "05", "", "4/1", "10", "1" * 5000, str(BIG)):
            self.refuses(errors.ParseError, read_number, 5, text)


class Polys(Case):
    def some(self, source):
        for ground in GROUNDS:
            one, less = told(ground, 1), told(ground, -1)
            yield from ((ground, poly) for poly in ((), (one,), (less,), (told(ground, 0), one), (one, less), (less, one),
                                                     (one, told(ground, 0), less), (one,) * 13, (less,) * 13))
            for _ in range(12):
                yield ground, random_poly(source, ground, source.randint(-1, 12))
        yield 0, ((BIG, 1), (-1, BIG))

    def test_each_text(self):
        for ground, poly in self.some(random.Random(1)):
            text = poly_text(ground, poly)
            self.assertEqual((text, read_poly(ground, text)), (told_poly(ground, poly), poly))

    def test_one_sign_away(self):
        for ground, text in ((0, "x^2-2"), (0, "-x^3+1/2*x"), (0, "x-1"), (0, "-3/2*x^12-x"), (0, "0"), (0, "-5"), (5, "2*x^3+x^2+4"),
                             (5, "x"), (2, "x^11+x+1"), (0, "10*x^10")):
            self.assertEqual(poly_text(ground, read_poly(ground, text)), text)
            for other in one_sign_away(text):
                try:
                    poly = read_poly(ground, other)
                except errors.ParseError as error:
                    self.assertIsNone(error.spot)
                    self.assertFalse(self.is_text(ground, other), other)
                else:
                    self.assertEqual(told_poly(ground, poly), other)
                    self.assertTrue(self.is_text(ground, other), other)

    def is_text(self, ground, text):
        """Whether it is the text of a poly: each term is read by itself, and written again."""
        if not text or not set(text) <= set("+-*/^0123456789x"):
            return False
        values = {}
        for term in text.replace("-", "+-").split("+"):
            number, _, power = term.partition("x")
            try:
                if "x" in term:
                    exponent = int(power[1:]) if power else 1
                    if power and not power.startswith("^"):
                        return False
                    number = {"": "1", "-": "-1"}.get(number, number[:-1] if number.endswith("*") else "bad")
                else:
                    exponent = 0
                if not 0 <= exponent <= 12:
                    return False
                values[exponent] = Fraction(number)
            except (ValueError, ZeroDivisionError):
                if term == "" and text[0] in "+-" and not values:
                    continue
                return False
        if ground and any(value.denominator != 1 or not 0 <= value < ground for value in values.values()):
            return False
        poly = [told(ground, values.get(k, 0)) for k in range(max(values, default=-1) + 1)]
        while poly and poly[-1] in (0, ZERO):
            poly.pop()
        return told_poly(ground, tuple(poly)) == text

    def test_bounds(self):
        self.assertEqual(read_poly(0, "x^12"), (ZERO,) * 12 + (ONE,))
        for text in ("x^13", "x^99999999999999999999", "x^1", "x^0", "x^02", "x*x", "x^2*x", "2*3", "x*2", "2x", "1*x", "x+x",
                     "1+x", "x+-1", "x--1", "+x", "x+0", "0*x", "0+x", "--x", "x^", "^2", "*x", "x*", "a", "y", "X", "x^2 ",
                     str(BIG + 1) + "*x", "x^2+x^3", "1+1", "x^-1", "x^1/2", "x/2", "", "-", "-0", "1/2x", "x-", "x+"):
            self.assertIsNone(self.refuses(errors.ParseError, read_poly, 0, text).spot)
        self.assertEqual(read_poly(0, str(BIG) + "*x"), (ZERO, (BIG, 1)))
        for text in ("5", "x-1", "5*x", "1/2", "x+5", "-x"):
            self.refuses(errors.ParseError, read_poly, 5, text)


class Forms(Case):
    def test_each_text(self):
        source = random.Random(2)
        for ground in GROUNDS:
            for size in (1, 2, 3):
                for _ in range(12):
                    form = random_form(source, ground, size, source.randint(0, 12), source.randint(0, 5))
                    for key in list(form)[:1]:
                        form[key] = source.choice((told(ground, 1), told(ground, -1), form[key]))
                    text = form_text(ground, size, form)
                    self.assertEqual(text, told_form(ground, form))
                    self.assertEqual(read_form(ground, size, text), form)
                    self.assertEqual(list(read_form(ground, size, text)), sorted(form))

    def test_texts(self):
        for size, text, form in (
            (2, "a^2*b-3*a+1", {(2, 1): ONE, (1, 0): (-3, 1), (0, 0): ONE}), (3, "-c", {(0, 0, 1): LESS}),
            (3, "a*b*c", {(1, 1, 1): ONE}), (3, "a^2+a*b+a*c+b^2+b*c+c^2", {
                key: ONE for key in ((2, 0, 0), (1, 1, 0), (1, 0, 1), (0, 2, 0), (0, 1, 1), (0, 0, 2))}),
            (2, "-1", {(0, 0): LESS}), (2, "-1/2*a+b", {(1, 0): (-1, 2), (0, 1): ONE}), (1, "a^12", {(12,): ONE}),
            (3, "a^4*b^4*c^4", {(4, 4, 4): ONE}),
        ):
            self.assertEqual((form_text(0, size, form), read_form(0, size, text)), (text, form))

    def test_one_sign_away(self):
        for ground, size, text in ((0, 3, "a^2*b-3*c+1"), (0, 2, "-a*b+1/2*b^2"), (5, 2, "4*a*b+b"), (0, 1, "a-1")):
            form = read_form(ground, size, text)
            self.assertEqual(form_text(ground, size, form), text)
            for other in one_sign_away(text):
                try:
                    found = read_form(ground, size, other)
                except errors.ParseError as error:
                    self.assertIsNone(error.spot)
                else:
                    # Each text is that of one form.
                    self.assertEqual((told_form(ground, found), found == form), (other, other == text))

    def test_no_texts(self):
        for text in ("b*a", "a*a", "b+a", "a+a^2", "1+a", "a^1", "a^0", "c", "d", "x", "a^7*b^6", "a^13", "a*", "*a", "ab", "a b",
                     "1*a", "a*1", "2*2*a", "a-0", "0*a", "+a", "a^2b", "A", "a^+2", "", "a**b", "a^^2", "a/2", "1/2a", "a-+b",
                     "a^b", "a*2", "a-b-b", "(a)", "a ", "a^12*b^0"):
            self.assertIsNone(self.refuses(errors.ParseError, read_form, 0, 2, text).spot)
        self.assertEqual(read_form(0, 3, "c"), {(0, 0, 1): ONE})
        self.assertEqual(read_form(0, 2, "a^6*b^6"), {(6, 6): ONE})


class Plain(Case):
    def test_values(self):
        for value, text in (
            (None, "none"), (True, "yes"), (False, "no"), (0, "0"), (-7, "-7"), ("", '""'), ("a b", '"a b"'), ((), "()"), ({}, "{}"),
            ((1,), "(1)"), ((1, (True, None)), "(1 (yes none))"), ({(): 1}, "{():1}"), ({(1, -2): "x"}, '{(1 -2):"x"}'),
            ({(2,): (), (1, 5): {}, (1,): None}, "{(1):none (1 5):{} (2):()}"), (" ", '" "'), ("none", '"none"'),
            ((True, 1, False, 0), "(yes 1 no 0)"),
        ):
            self.assertEqual((value_text(value), repr(read_value(text))), (text, repr(
                {key: value[key] for key in sorted(value)} if isinstance(value, dict) else value)))

    def test_long(self):
        for number in (10 ** 63, 10 ** 64, 10 ** 64 - 1, 10 ** 128, -10 ** 200 - 7, 7 * 10 ** 4299, 10 ** 4300, -(10 ** 5000) + 1,
                       3 ** 30000, 10 ** 8000 + 5):
            text = value_text(number)
            self.assertEqual(read_value(text), number)
            self.assertEqual(len(text.lstrip("-")), self.digits(abs(number)))
            self.assertEqual(read_value("(" + text + " " + text + ")"), (number, number))
        self.assertEqual(value_text("a" * 4000), '"' + "a" * 4000 + '"')
        self.assertEqual(read_value('"' + "z" * 4000 + '"'), "z" * 4000)
        self.refuses(errors.ParseError, read_value, '"' + "z" * 4001 + '"')
        self.refuses(errors.InvalidOperation, value_text, "z" * 4001)

    def digits(self, number):
        many = 0
        while number >= 10 ** 100:
            number //= 10 ** 100
            many += 100
        return many + len(str(number))

    def test_depth(self):
        for make, first, last in ((lambda x: (x,), "(", ")"), (lambda x: {(1,): x}, "{(1):", "}"), (lambda x: (x, 1), "(", " 1)")):
            for depth, is_right in ((29, True), (30, True), (31, False), (40, False)):
                value, text = nested(make, depth), first * depth + "1" + last * depth
                if is_right:
                    self.assertEqual((value_text(value), read_value(text)), (text, value))
                else:
                    self.refuses(errors.InvalidOperation, value_text, value)
                    self.refuses(errors.ParseError, read_value, text)
        # Keys are not counted; () is as deep as (1,).
        deep = nested(lambda x: (x,), 29)
        self.assertEqual(read_value(value_text((deep, {(1,): 2}))), (deep, {(1,): 2}))
        empty = ()
        for _ in range(29):
            empty = (empty,)
        self.assertEqual(read_value(value_text(empty)), empty)
        self.refuses(errors.InvalidOperation, value_text, (empty,))
        self.refuses(errors.ParseError, read_value, "(" * 31 + ")" * 31)
        self.refuses(errors.ParseError, read_value, "(" * 900)

    def test_no_texts(self):
        for text in ("", " ", "01", "-0", "+1", "--1", "-", "1 ", " 1", "1 2", "None", "True", "yess", "nonee", "no ne", "(1  2)", "( 1)",
                     "(1 )", "(1,2)", "(1", "1)", "()()", "[1]", '"', '"a', 'a"', '"A"', '"a1"', '"a\n"', '"a""b"', "{", "}", "{1:2}",
                     "{(1) :2}", "{(1): 2}", "{(1):2,(2):3}", "{(2):1 (1):2}", "{(1):1 (1):2}", "{(yes):1}", '{("a"):1}', "{((1)):1}",
                     "{(1)}", "{(1):}", "{():1 }", "{(1):1  (2):2}", "1.5", "1e5", "0x1", "'a'", "\u0661", "none\n", "(none", "yesno",
                     "{(1 0):1 (1):2}", "(1\n2)", "noney", "-()"):
            self.assertIsNone(self.refuses(errors.ParseError, read_value, text).spot, text)

    def test_random_values_and_texts_near(self):
        source = random.Random(3)
        for _ in range(60):
            value = self.some(source, 5)
            text = value_text(value)
            back = read_value(text)
            self.assertEqual((repr(self.sorted(value)), value_text(back)), (repr(back), text))
            for other in list(one_sign_away(text[:60] if text[:1] not in "({" else text))[:400]:
                try:
                    found = read_value(other)
                except errors.ParseError:
                    continue
                self.assertEqual(value_text(found), other)

    def some(self, source, depth):
        kind = source.randrange(8) if depth else source.randrange(5)
        if kind < 5:
            return source.choice((None, True, False, 0, 1, -1, source.randint(-999, 999), "", "ab c", "no"))
        if kind < 7:
            return tuple(self.some(source, depth - 1) for _ in range(source.randint(0, 3)))
        return {tuple(source.randint(-2, 12) for _ in range(source.randint(0, 2))): self.some(source, depth - 1)
                for _ in range(source.randint(0, 3))}

    def sorted(self, value):
        if isinstance(value, dict):
            return {key: self.sorted(value[key]) for key in sorted(value)}
        return tuple(self.sorted(member) for member in value) if isinstance(value, tuple) else value

    def test_all_claims_and_papers(self):
        source = random.Random(4)
        for _ in range(3):
            for claim, paper in answers(source):
                for value in (claim, paper):
                    self.assertEqual(read_value(value_text(value)), value)
                    self.assertEqual(repr(read_value(value_text(value))), repr(value))


class Books(Case):
    def test_there_and_back(self):
        source = random.Random(5)
        lines = []
        for at, (claim, paper) in enumerate(answers(source)[:40]):
            name = "n" + "abcdefghij"[at // 10] + "abcdefghij"[at % 10]
            lines.append((name, claim, ("paper", near(source, paper) if at % 7 == 3 else paper)))
        for book in (Book(), good_book(), Book.told(good_book().rows()[:3] + (("x", SPLIT, ("paper", (3, 4))),)),
                     Book.told(tuple(line for line in lines if self.is_plain(line)))):
            text = book_text(book)
            back = read_book(text)
            self.assertTrue(back == book and repr(back.rows()) == repr(book.rows()))
            self.assertEqual((back.audit(), back.changes, book_text(back)), (book.audit(), 0, text))
            self.assertEqual(text, "\n".join(f"{name} {value_text(claim)} {value_text(reason)}"
                                             for name, claim, reason in book.rows()))

    def is_plain(self, line):
        try:
            value_text(line[2])
        except errors.InvalidOperation:
            return False
        return True

    def test_lines_that_are_not_plain(self):
        for paper in ([1], "A", {1: 2}, nested(lambda x: (x,), 30), (1, [2])):
            self.refuses(errors.InvalidOperation, book_text, Book.told((("a", SPLIT, ("paper", paper)),)))
        self.assertEqual(len(read_book(book_text(Book.told((("a", SPLIT, ("paper", nested(lambda x: (x,), 29))),))))), 1)

    def test_rows(self):
        text = book_text(good_book())
        rows = text.split("\n")
        self.assertEqual(len(rows), 6)
        self.assertEqual(rows[5], 'seven ("prime" 7) ("paper" ((3 2 ((2 1))) (7 3 ((2 1) (3 1)))))')
        self.assertEqual(rows[4][-17:], ' ("turned" "lot")')

        def spot(*rows):
            return self.refuses(errors.ParseError, read_book, "\n".join(rows)).spot
        # Rows left out, exchanged, doubled, spoilt.
        self.assertEqual(spot(*rows[1:]), 1)
        self.assertEqual(spot(rows[0], *rows[2:]), 2)
        self.assertEqual(spot(rows[1], rows[2], rows[0]), 1)
        self.assertEqual(spot(*rows, rows[0]), 6)
        self.assertEqual(spot(rows[0], rows[0]), 1)
        self.assertEqual(len(read_book("\n".join(rows[:2] + rows[5:]))), 3)
        for at in range(6):
            for wrong in ("", " ", rows[at] + " ", " " + rows[at], rows[at][:-1], rows[at].replace(" ", "  ", 1),
                          rows[at].replace("(", "[", 1), rows[at].upper(), rows[at] + " ()", "x", rows[at].split(" ")[0],
                          "abcdefghi" + rows[at][rows[at].index(" "):], rows[at][rows[at].index(" "):],
                          rows[at].replace('"paper"', '"papers"').replace('"t', '"T').replace('"p', '"P')):
                self.assertEqual(spot(*rows[:at], wrong, *rows[at + 1:]), at, wrong)
        self.assertEqual(spot(text, ""), 6)
        self.assertEqual(spot("", text), 0)
        self.assertEqual(spot(text + "\r"), 5)
        # A claim that is none, a reason that is none, a step that names a later line or its own.
        for wrong in ('x ("prime" 1) ("paper" ())', 'x ("prime" 7) ()', 'x ("prime" 7) ("step")', 'x none none',
                      'x ("prime" 7) ("turned" "x")', 'x ("prime" 7) ("turned" "seven")', 'X ("prime" 7) ("paper" ())',
                      'x ("prime" yes) ("paper" ())', 'x ("prime" 7)("paper" ())'):
            self.assertEqual(spot(rows[0], wrong, *rows[1:]), 1)
        self.assertEqual(len(read_book(text + '\nx ("prime" 7) ("turned" "seven")')), 7)
        self.assertEqual(read_book(text + '\nx ("prime" 7) ("turned" "seven")').audit(), "x")

    def test_sixty_rows(self):
        names = [x + y for x in "abcdefgh" for y in "abcdefgh"]
        rows = [name + ' ("split" 91) ("paper" (7 13))' for name in names[:60]]
        book = read_book("\n".join(rows))
        self.assertEqual((len(book), book.audit()), (60, None))
        self.assertEqual(self.refuses(errors.ParseError, read_book, "\n".join(rows + ['zz ("split" 91) ("paper" ())'])).spot, 60)
        self.assertEqual(self.refuses(errors.ParseError, read_book, "\n".join(rows[:30] + rows[:31])).spot, 30)

    def test_not_true(self):
        # [20.5]: if a row is left out, the rest can be read.
        rows = book_text(good_book()).split("\n")
        self.assertEqual(self.refuses(errors.ParseError, read_book, "\n".join(rows[:1] + rows[2:])).spot, 2)
