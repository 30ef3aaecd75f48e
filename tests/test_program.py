"""The main statements [0.17] to [0.22], over the whole program."""
import random
from fractions import Fraction

from forms import is_ascending, plus, random_form, times
from helping import LESS, ONE, TWO, ZERO, Case
from judging import is_made, is_paper
from polys import made, times as poly_times
from sampling import answers, near

from zeroorone import errors
from zeroorone.base.numbers import divisor_answer, rests_answer
from zeroorone.book.book import Book
from zeroorone.letter.chains import alone_answer, root_order_answer, roots_answer, sign_answer
from zeroorone.letter.lifted import fraction_parts_answer, fraction_unsplit_answer
from zeroorone.letter.modparts import parts_answer, unsplit_answer
from zeroorone.letter.rests import common_answer, join_answer, mix_answer, resultant_answer, square_answer
from zeroorone.many.bases import basis_answer
from zeroorone.many.parted import form_parts_answer, parted_form_answer
from zeroorone.many.within import free_answer, lots_answer, meet_answer, quotient_answer, taken_out_answer, within_answer
from zeroorone.paper.checker import is_claim, kinds, opposite, takes
from zeroorone.points.counts import complex_answer, real_answer, signed_answer
from zeroorone.points.points import alike_answer, point_answer, wish_answer
from zeroorone.points.stairs import finite_answer, least_poly_answer, tables_answer
from zeroorone.primes.every import but_number, every_answer, every_kinds, led, led_paper
from zeroorone.primes.primes import prime_answer, prime_parts_answer
from zeroorone.tables.atleast import follow_answer, greatest_answer, reach_answer
from zeroorone.tables.solving import rank_answer, solve_answer
from zeroorone.tables.whole import stairs_answer, steps_answer, whole_answer
from zeroorone.text.texts import book_text, read_book

A, B = {(1, 0): ONE}, {(0, 1): ONE}
X = {(1,): ONE}


def line(root):
    return made(0, [-Fraction(root), 1])


def known_answers():
    """Questions of all kinds with answers that are known by how they are made: (claim, paper), and the claim."""
    root, cubic = ((-2, 1), ZERO, ONE), poly_times(0, line(-1), line(0), line(2))
    ab, split = times(0, A, B), times(0, plus(0, A, B), plus(0, A, B, -1))
    step = {(1, 0): ONE, (0, 0): LESS}
    rows = ((ONE, TWO), (TWO, (4, 1)))
    wish = ("and", ("is", A), ("not", ("is", ab)))
    forms = (plus(0, times(0, A, A), A, -1), plus(0, times(0, B, B), A, -1))
    return [
        (divisor_answer(-84, 30), ("divisor", -84, 30, 6)),
        (rests_answer(((3, 2), (5, 3), (7, 2))), ("rests", ((3, 2), (5, 3), (7, 2)))),
        (rests_answer(((6, 2), (9, 3))), ("no rests", ((6, 2), (9, 3)))),
        (prime_answer(99999989), ("prime", 99999989)), (prime_answer(9973 * 9967), ("split", 9973 * 9967)),
        (prime_parts_answer(2 ** 5 * 3 * 101 ** 2), ("prime parts", 2 ** 5 * 3 * 101 ** 2, ((2, 5), (3, 1), (101, 2)))),
        (solve_answer(0, rows, (ONE, TWO)), ("solved", 0, rows, (ONE, TWO))),
        (solve_answer(0, rows, (ONE, ONE)), ("barred", 0, rows, (ONE, ONE))), (rank_answer(0, rows), ("rank", 0, rows, 1)),
        (whole_answer(((4, 6),), (10,)), ("whole", ((4, 6),), (10,))),
        (whole_answer(((4, 6),), (9,)), ("never whole", ((4, 6),), (9,))),
        (stairs_answer(((4,), (6,))), ("stairs", ((4,), (6,)), ((2,),))), (steps_answer(((4, 0), (0, 6))), (
            "steps", ((4, 0), (0, 6)), (2, 12))),
        (reach_answer(((ONE,), (LESS,)), (ONE, (-2, 1))), ("reached", ((ONE,), (LESS,)), (ONE, (-2, 1)))),
        (reach_answer(((ONE,), (LESS,)), (TWO, LESS)), ("never reached", ((ONE,), (LESS,)), (TWO, LESS))),
        (greatest_answer(((LESS,),), ((-3, 1),), (TWO,)), ("greatest", ((LESS,),), ((-3, 1),), (TWO,), (6, 1))),
        (greatest_answer(((ONE,),), (ONE,), (ONE,)), ("no greatest", ((ONE,),), (ONE,), (ONE,))),
        (follow_answer(((ONE,),), (ONE,), (TWO,), TWO), ("follows", ((ONE,),), (ONE,), (TWO,), TWO)),
        (follow_answer(((ONE,),), (ONE,), (TWO,), (3, 1)), ("escapes", ((ONE,),), (ONE,), (TWO,), (3, 1))),
        (common_answer(0, poly_times(0, line(1), line(2)), poly_times(0, line(1), line(3))), (
            "common", 0, poly_times(0, line(1), line(2)), poly_times(0, line(1), line(3)), line(1))),
        (mix_answer(0, line(1), line(2), (ONE,)), ("mixed", 0, line(1), line(2), (ONE,))),
        (mix_answer(0, root, (), (ONE,)), ("never mixed", 0, root, (), (ONE,))),
        (join_answer(0, ((line(1), (TWO,)), (line(2), (ONE,)))), ("joined", 0, ((line(1), (TWO,)), (line(2), (ONE,))))),
        (join_answer(0, ((line(1), (TWO,)), (line(1), (ONE,)))), ("never joined", 0, ((line(1), (TWO,)), (line(1), (ONE,))))),
        (square_answer(0, poly_times(0, line(1), line(1), line(2))), ("square parts", 0, poly_times(
            0, line(1), line(1), line(2)), ((line(2), 1), (line(1), 2)))),
        (resultant_answer(0, root, line(3)), ("resultant", 0, root, line(3), (7, 1))),
        (unsplit_answer(5, (2, 0, 1)), ("unsplit", 5, (2, 0, 1))), (unsplit_answer(5, (1, 0, 1)), ("parted", 5, (1, 0, 1))),
        (parts_answer(3, (2, 0, 1)), ("parts", 3, (2, 0, 1), (((1, 1), 1), ((2, 1), 1)))),
        (fraction_unsplit_answer(root), ("unsplit", 0, root)), (fraction_unsplit_answer(cubic), ("parted", 0, cubic)),
        (fraction_parts_answer(poly_times(0, (TWO,), root, line(1))), (
            "parts", 0, poly_times(0, (TWO,), root, line(1)), ((line(1), 1), (root, 1)))),
        (roots_answer(cubic, LESS, None), ("roots", cubic, LESS, None, 2)), (alone_answer(root, ZERO, None), (
            "alone", root, ZERO, None)),
        (sign_answer(root, line(1), ZERO, None), ("sign", root, line(1), ZERO, None, 1)),
        (sign_answer(root, root, ZERO, None), ("sign", root, root, ZERO, None, 0)),
        (root_order_answer(root, ZERO, None, line(1), None, None), ("root order", root, ZERO, None, line(1), None, None, 1)),
        (basis_answer(0, 1, "deg", (X, {(1,): TWO})), ("basis", 0, 1, "deg", (X, {(1,): TWO}), (X,))),
        (within_answer(0, 2, ab, (A,)), ("within", 0, 2, ab, (A,))), (within_answer(0, 2, A, (ab,)), ("outside", 0, 2, A, (ab,))),
        (lots_answer(0, 2, (A, B), (plus(0, A, B), B)), ("same lot", 0, 2, (A, B), (plus(0, A, B), B))),
        (lots_answer(0, 2, (A,), (ab,)), ("unlike lots", 0, 2, (A,), (ab,))),
        (taken_out_answer(0, 2, (A, B), 1), ("taken out", 0, 2, (A, B), 1, (B,))),
        (meet_answer(0, 2, (A,), (B,)), ("meet", 0, 2, (A,), (B,), (ab,))),
        (quotient_answer(0, 2, (ab,), A), ("quotient", 0, 2, (ab,), A, (B,))),
        (free_answer(0, 2, (ab,)), ("free", 0, 2, (ab,), 1)),
        (finite_answer(0, 2, forms), ("finite", 0, 2, forms, 4)), (finite_answer(0, 2, (ab,)), ("endless", 0, 2, (ab,))),
        (tables_answer(0, 1, (X,)), ("tables", 0, 1, (X,), ((0,),), (((ZERO,),),))),
        (least_poly_answer(0, 1, ({(2,): ONE, (0,): LESS},), X), ("least poly", 0, 1, ({(0,): LESS, (2,): ONE},), X, (LESS, ZERO, ONE))),
        (point_answer(2, (ab,), (A,)), ("point", 0, 2, (ab,), (A,))), (point_answer(2, (A,), (ab,)), ("no point", 0, 2, (A,), (ab,))),
        (wish_answer(2, wish), ("never", 2, wish)), (wish_answer(2, ("not", wish)), ("happens", 2, ("not", wish))),
        (alike_answer(2, ("is", ab), ("or", ("is", A), ("is", B))), ("alike", 2, ("is", ab), ("or", ("is", A), ("is", B)))),
        (alike_answer(2, ("is", A), ("is", B)), ("unlike", 2, ("is", A), ("is", B))),
        (complex_answer(2, forms), ("complex points", 2, forms, 3)), (real_answer(2, forms), ("real points", 2, forms, 3)),
        (signed_answer(2, forms, B), ("signed points", 2, forms, B, 1, 1)),
        (parted_form_answer(2, split), ("parted form", 2, split)), (parted_form_answer(2, plus(0, ab, B)), (
            "parted form", 2, plus(0, ab, B))), (parted_form_answer(2, plus(0, ab, step)), (
                "unsplit form", 2, plus(0, ab, step))),
        (form_parts_answer(2, times(0, ab, B)), ("form parts", 2, times(0, ab, B), ONE, ((B, 2), (A, 1)))),
        (every_answer(*solve_answer(0, ((TWO,),), (ONE,))), ("all primes but", ("solved", 0, ((TWO,),), (ONE,)), 2)),
    ]


def names():
    return [x + y for x in "abcdefgh" for y in "abcdefgh"]


class MainStatements(Case):
    def test_known_answers_of_all_kinds_in_books(self):
        # [0.17], [0.18], [0.21]
        told_answers = known_answers()
        self.assertEqual({claim[0] for (claim, _), _ in told_answers}, set(kinds()))
        books = [Book(), Book()]
        for at, ((claim, paper), wanted) in enumerate(told_answers):
            self.assertEqual(claim, wanted)
            self.assertTrue(is_ascending((claim, paper)))
            books[at // 40].state(names()[at], claim, paper)
        for book in books:
            self.assertIsNone(book.audit())
            back = read_book(book_text(book))
            self.assertTrue(back == book and back.audit() is None)
            self.spoil(book)

    def spoil(self, book):
        """A false claim among the lines is found, also in the text."""
        rows = book.rows()
        spoilt = 0
        for at, (name, claim, reason) in enumerate(rows):
            other = opposite(claim)
            if other is not None:
                spoilt += 1
                wrong = Book.told(rows[:at] + ((name, other, reason),) + rows[at + 1:])
                self.assertEqual((wrong.audit(), read_book(book_text(wrong)).audit()), (name, name))
                self.refuses(errors.Refused, Book().state, "a", other, reason[1])
        self.assertGreater(spoilt, 3)

    def test_no_false_claim(self):
        # [0.17]: whatever is taken near true claims and papers is true, so its opposite has no paper.
        source = random.Random(1)
        for _ in range(4):
            for claim, paper in answers(source):
                for _ in range(6):
                    other, tried = near(source, claim), near(source, paper)
                    for one in (claim, other):
                        if takes(one, tried):
                            self.assertTrue(is_claim(one) and is_made(one) and is_paper(one, tried))
                            turned = opposite(one)
                            if turned is not None:
                                self.assertFalse(takes(turned, tried) or takes(turned, paper))

    def test_zero_or_one(self):
        # [0.19]
        source = random.Random(2)
        for _ in range(60):
            size = source.randint(1, 3)
            zeros = tuple(random_form(source, 0, size, 2, 2, 2) for _ in range(source.randint(0, 3)))
            others = tuple(random_form(source, 0, size, 2, 2, 2) for _ in range(source.randint(0, 2)))
            claim, paper = point_answer(size, zeros, others)
            self.assertTrue(takes(claim, paper))
            self.assertFalse(takes(opposite(claim), paper))
            wish = ("and", ("is", {})) + tuple(("is", zero) for zero in zeros) + tuple(("not", ("is", one)) for one in others)
            happens, shown = wish_answer(size, wish)
            self.assertIn((happens[0], claim[0]), (("happens", "point"), ("never", "no point")))
            self.assertTrue(takes(happens, shown))

    def test_all_primes_but_told_ones(self):
        # [0.20]
        source = random.Random(3)
        many = 0
        for _ in range(6):
            for claim, paper in answers(source):
                if claim[0] in every_kinds() and claim[1] == 0:
                    number = but_number(claim, paper)
                    for prime in (2, 3, 5, 7, 9967):
                        if number % prime:
                            self.assertTrue(takes(led(claim, prime), led_paper(claim, paper, prime)))
                            many += 1
        self.assertGreater(many, 100)

    def test_a_true_claim_modulo_a_prime_can_be_false_over_the_fractions(self):
        # [0.22]
        self.assertEqual(fraction_unsplit_answer((ONE, ZERO, ONE))[0][0], "unsplit")
        self.assertEqual(unsplit_answer(5, (1, 0, 1))[0][0], "parted")
        claim = ("split", 91)
        self.assertTrue(takes(claim, (7, 13)) and takes(claim, (13, 7)))

    def test_answers_are_equal_for_equal_calls(self):
        # [0.2]: arguments are not changed, and equal calls return equal results, with keys that ascend.
        source = random.Random(4)
        for _ in range(20):
            size = source.randint(1, 3)
            form = random_form(source, 0, size, 2, 3, 3)
            turned = {key: form[key] for key in reversed(list(form))}
            for call, args in ((within_answer, (0, size, "form", ("form",))), (point_answer, (size, ("form",), ("form",))),
                               (lots_answer, (0, size, ("form",), ("form", "form"))), (finite_answer, (0, size, ("form",))),
                               (wish_answer, (size, ("not", ("is", "form"))))):
                one, other = self.put(args, form), self.put(args, turned)
                found, again = call(*one), call(*other)
                self.assertEqual(repr(found), repr(again))
                self.assertTrue(is_ascending(found))
                self.assertEqual((one, list(turned)), (self.put(args, form), list(reversed(list(form)))))

    def put(self, args, form):
        if isinstance(args, tuple):
            return tuple(self.put(member, form) for member in args)
        return form if args == "form" else args
