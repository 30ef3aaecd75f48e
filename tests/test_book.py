"""Stage 19: books."""
import random

from forms import plus, random_form, times
from helping import BIG, HALF, LESS, ODD, ONE, TWO, ZERO, Case, nested
from judging import is_made, is_paper
from polys import times as poly_times
from sampling import answers, near

from zeroorone import errors
from zeroorone.book.book import Book, follows
from zeroorone.letter.chains import roots_answer
from zeroorone.letter.lifted import fraction_parts_answer
from zeroorone.letter.modparts import parts_answer
from zeroorone.many.terms import form_product
from zeroorone.many.within import lots_answer, within_answer
from zeroorone.paper.checker import takes
from zeroorone.primes.every import every_answer
from zeroorone.primes.primes import prime_answer
from zeroorone.tables.solving import solve_answer
from zeroorone.text.shell import Shell

CIRCLE, LINE = {(2, 0): ONE, (0, 2): ONE, (0, 0): LESS}, {(1, 0): ONE, (0, 1): LESS}
A, B = {(1, 0): ONE}, {(0, 1): ONE}
GENS, OTHERS = (CIRCLE, LINE), ({(0, 2): TWO, (0, 0): LESS}, LINE)
SPLIT = ("split", 91)
ROOT = ((-2, 1), ZERO, ONE)

# For each step claims that are named, its reason, and the claim that follows.
STEPS = [
    ([("within", 0, 2, A, GENS), ("within", 0, 2, LINE, GENS)], ("sum", "a", "b"),
     ("within", 0, 2, {(1, 0): TWO, (0, 1): LESS}, GENS)),
    ([("within", 5, 1, {(1,): 3}, ()), ("within", 5, 1, {(1,): 2}, ())], ("sum", "a", "b"), ("within", 5, 1, {}, ())),
    ([("within", 0, 2, LINE, GENS)], ("times", "a", A), ("within", 0, 2, {(2, 0): ONE, (1, 1): LESS}, GENS)),
    ([("within", 5, 1, {(1,): 3}, ())], ("times", "a", {(2,): 2, (0,): 1}), ("within", 5, 1, {(3,): 1, (1,): 3}, ())),
    ([("within", 0, 4, {}, ())], ("times", "a", {(1, 0, 0, 0): HALF}), ("within", 0, 4, {}, ())),
    ([("within", 0, 1, {(5,): ONE}, ())], ("times", "a", {}), ("within", 0, 1, {}, ())),
    ([("within", 0, 2, A, GENS), ("same lot", 0, 2, GENS, OTHERS)], ("through", "a", "b"), ("within", 0, 2, A, OTHERS)),
    ([("outside", 0, 2, A, GENS), ("same lot", 0, 2, GENS, OTHERS)], ("through", "a", "b"), ("outside", 0, 2, A, OTHERS)),
    ([("same lot", 0, 2, GENS, OTHERS)], ("turned", "a"), ("same lot", 0, 2, OTHERS, GENS)),
    ([("same lot", 0, 2, GENS, OTHERS), ("same lot", 0, 2, OTHERS, (A,))], ("chain", "a", "b"),
     ("same lot", 0, 2, GENS, (A,))),
    ([("roots", ROOT, None, ZERO, 1), ("roots", ROOT, ZERO, TWO, 4)], ("beside", "a", "b"), ("roots", ROOT, None, TWO, 5)),
    ([("roots", ROOT, (-3, 1), ZERO, 1), ("roots", ROOT, ZERO, None, 0)], ("beside", "a", "b"),
     ("roots", ROOT, (-3, 1), None, 1)),
    ([("parts", 5, (0, 2), (((0, 1), 1),)), ("parts", 5, (0, 1, 1), (((0, 1), 1), ((1, 1), 1)))], ("parts", "a", "b"),
     ("parts", 5, (0, 0, 2, 2), (((0, 1), 2), ((1, 1), 1)))),
    ([("parts", 0, (TWO,), ()), ("parts", 0, (HALF,), ())], ("parts", "a", "b"), ("parts", 0, (ONE,), ())),
    ([("all primes but", ("solved", 0, ((TWO,),), (ONE,)), 2)], ("at", "a", 3), ("solved", 3, ((2,),), (1,))),
    ([("all primes but", ("within", 0, 1, {(1,): (3, 1)}, ({(1,): (3, 1)},)), 1)], ("at", "a", 3), ("within", 3, 1, {}, ({},))),
]


def known_of(claims):
    return dict(zip("abc", claims))


class Examples(Case):
    def test_examples(self):
        book = Book()
        self.assertEqual(
            [book.state("one", *within_answer(0, 2, LINE, GENS)),
             book.lean("two", ("within", 0, 2, form_product(0, 2, LINE, A), GENS), ("times", "one", A)), str(book)],
            [("one",), ("two",), "book of 2 lines, 1 by steps"])
        self.assertEqual([book.leans("two"), book.strike("one"), book.undo(), book.audit(), len(book.least("one"))],
                         [("one",), ("one", "two"), 2, None, 1])
        wrong = Book.told((("one", ("split", 7), ("paper", (2, 3))), ("two", ("split", 91), ("paper", (7, 13)))))
        self.assertEqual([wrong.audit(), wrong.strike("one"), wrong.audit()], ["one", ("one",), None])
        self.assertEqual(self.refuses(errors.Refused, book.state, "four", ("split", 7), (2, 3)).reason, ("paper",))


class Follows(Case):
    def test_each_step(self):
        for claims, reason, claim in STEPS:
            self.assertTrue(all(is_made(one) for one in claims + [claim]), (claims, claim))
            self.assertIs(follows(claim, reason, known_of(claims)), True, (claims, reason))

    def test_near(self):
        source = random.Random(1)
        for claims, reason, claim in STEPS:
            for _ in range(60):
                other = near(source, claim)
                self.assertIs(follows(other, reason, known_of(claims)), is_made(other) and other == claim, other)
            for at, one in enumerate(claims):
                for _ in range(40):
                    other = near(source, one)
                    if is_made(other):
                        known = known_of(claims[:at] + [other] + claims[at + 1:])
                        self.assertIs(follows(claim, reason, known), self.told(reason, list(known.values())) == claim)
                    else:
                        self.refuses(errors.InvalidClaim, follows, claim, reason, {"a": other})

    def told(self, reason, claims):
        """The table of [19.1], word by word; None if nothing follows."""
        one, *more = claims
        kind = reason[0]
        kinds = [claim[0] for claim in claims]
        if kind == "times":
            fits = kinds == ["within"]
            return one[:3] + (times(one[1], one[3], reason[2]), one[4]) if fits else None
        if kind == "turned":
            return one[:3] + (one[4], one[3]) if kinds == ["same lot"] else None
        if kind == "at":
            if kinds != ["all primes but"] or one[2] % reason[2] == 0 or reason[2] != 3:
                return None
            return self.at_three(one[1])
        (other,) = more
        if kind == "sum":
            fits = kinds == ["within"] * 2 and one[1:3] == other[1:3] and one[4] == other[4]
            return one[:3] + (plus(one[1], one[3], other[3]), one[4]) if fits else None
        if kind in ("through", "chain"):
            firsts = ("within", "outside") if kind == "through" else ("same lot",)
            fits = kinds[0] in firsts and kinds[1] == "same lot" and one[1:3] == other[1:3] and one[4] == other[3]
            return one[:4] + (other[4],) if fits else None
        if kind == "beside":
            fits = kinds == ["roots"] * 2 and one[1] == other[1] and one[3] == other[2] is not None
            return ("roots", one[1], one[2], other[3], one[4] + other[4]) if fits else None
        if kinds != ["parts"] * 2 or one[1] != other[1]:
            return None
        counts = {}
        for part, many in one[3] + other[3]:
            counts[part] = counts.get(part, 0) + many
        row = tuple((part, counts[part]) for part in sorted(counts, key=lambda part: (len(part), part)))
        return ("parts", one[1], poly_times(one[1], one[2], other[2]), row)

    def at_three(self, claim):
        def numbers(value):
            if isinstance(value, dict):
                made = {key: numbers(value[key]) for key in value}
                return None if None in made.values() else {key: made[key] for key in sorted(made) if made[key]}
            if isinstance(value, tuple) and len(value) == 2 and all(isinstance(x, int) for x in value):
                return value[0] * pow(value[1], -1, 3) % 3 if value[1] % 3 else None
            if not isinstance(value, tuple):
                return value
            made = tuple(numbers(member) for member in value)
            return None if None in made else made
        led = numbers(claim[2:])
        return None if led is None else (claim[0], 3) + led

    def test_names_and_grounds_that_differ(self):
        within, lot = ("within", 0, 2, A, GENS), ("same lot", 0, 2, GENS, OTHERS)
        for claims, reason, claim in STEPS:
            for name in "abc"[:len(claims)]:
                known = known_of(claims)
                del known[name]
                self.assertFalse(follows(claim, reason, known))
            self.assertFalse(follows(claim, ("paper", ()), known_of(claims)))
        # The same name twice, and names that are not needed.
        self.assertTrue(follows(("within", 0, 2, {(1, 0): TWO}, GENS), ("sum", "a", "a"), {"a": within, "b": lot}))
        self.assertFalse(follows(("within", 0, 2, A, GENS), ("sum", "a", "b"), {"a": within, "b": ("within", 0, 2, {}, OTHERS)}))
        self.assertFalse(follows(("within", 0, 1, {}, ()), ("sum", "a", "b"),
                                 {"a": ("within", 0, 1, {}, ()), "b": ("within", 5, 1, {}, ())}))
        self.assertFalse(follows(("within", 0, 1, {}, ()), ("sum", "a", "b"),
                                 {"a": ("within", 0, 1, {}, ()), "b": ("within", 0, 2, {}, ())}))
        self.assertFalse(follows(("within", 0, 1, {}, ()), ("through", "a", "b"),
                                 {"a": ("within", 0, 1, {}, ()), "b": ("same lot", 5, 1, (), ())}))
        # A form of another ground or size.
        self.assertFalse(follows(("within", 0, 1, {}, ()), ("times", "a", {(1,): 2}), {"a": ("within", 0, 1, {}, ())}))
        self.assertFalse(follows(("within", 5, 1, {}, ()), ("times", "a", {(1,): 5}), {"a": ("within", 5, 1, {}, ())}))
        self.assertFalse(follows(("within", 0, 1, {}, ()), ("times", "a", {(1, 0): ONE}), {"a": ("within", 0, 1, {}, ())}))
        # None is no fraction to put stretches beside.
        self.assertFalse(follows(("roots", ROOT, ZERO, ONE, 2), ("beside", "a", "b"),
                                 {"a": ("roots", ROOT, ZERO, None, 1), "b": ("roots", ROOT, None, ONE, 1)}))

    def test_exponents_beyond_those_of_claims(self):
        great = {(10 ** 4,): ONE}
        self.assertTrue(follows(("within", 0, 1, great, ()), ("times", "a", great), {"a": ("within", 0, 1, {(0,): ONE}, ())}))
        self.assertFalse(follows(("within", 0, 1, {(10 ** 4 + 1,): ONE}, ()), ("times", "a", {(1,): ONE}),
                                 {"a": ("within", 0, 1, great, ())}))

    def test_at(self):
        claim = ("solved", 0, ((TWO,),), (ONE,))
        for prime, is_right in ((3, True), (9973, True), (2, False), (10007, False), (4, False), (0, False), (1, False)):
            led = ("solved", prime, ((2 % prime if prime else 2,),), (1,))
            self.assertIs(follows(led, ("at", "a", prime), {"a": ("all primes but", claim, 2)}), is_right)
        # A false claim with a bottom that the prime divides, but not the number.
        false = ("all primes but", ("solved", 0, (((1, 3),),), (ONE,)), 2)
        self.assertFalse(follows(("solved", 3, ((0,),), (1,)), ("at", "a", 3), {"a": false}))
        tops = ("all primes but", ("parted", 0, (ONE, ONE, (3, 1))), 2)
        self.assertFalse(follows(("parted", 3, (1, 1)), ("at", "a", 3), {"a": tops}))
        self.assertTrue(follows(("parted", 5, (1, 1, 3)), ("at", "a", 5), {"a": tops}))

    def test_what_is_no_step(self):
        claim, known = ("within", 0, 2, {}, GENS), {"a": ("within", 0, 2, {}, GENS)}
        self.assertTrue(follows(claim, ("sum", "a", "a"), known))
        for value in ODD + [("sum",), ("sum", "a"), ("sum", "a", "a", "a"), ["sum", "a", "a"], ("sums", "a", "a"),
                            ("sum", "A", "a"), ("sum", "a", ""), ("sum", "a", "a" * 9), ("sum", "a", 1), (None, "a", "a"),
                            ("times", "a"), ("times", "a", A, A), ("times", "a", ()), ("times", "a", {(1, 0): 0}),
                            ("times", "a", {(1, 0): ZERO}), ("times", "a", {(1, 0): ONE, (0, 1): 1}), ("turned", "a", "a"),
                            ("times", "a", {(1, 0): ONE, (1,): ONE}), ("times", "a", {(True, 0): ONE}), ("at", "a"),
                            ("at", "a", 4), ("at", "a", "b"), ("at", "a", True), ("paper", ()), {"sum": "a"}]:
            self.assertIs(follows(claim, value, known), False, value)
            book = Book.told((("a", claim, ("paper", None)),))
            self.refuses(errors.InvalidOperation, book.lean, "b", claim, value)
            if not (isinstance(value, tuple) and value[:1] == ("paper",)):
                self.refuses(errors.InvalidClaim, Book.told, (("a", claim, ("paper", None)), ("b", claim, value)))
        for value in ODD + [Book(), ("prime", 1)]:
            self.assertIs(follows(value, ("sum", "a", "a"), known), False)

    def test_known(self):
        claim = ("within", 0, 2, {}, GENS)
        for wrong in ODD + [{"a": 1}, {"A": claim}, {"": claim}, {"a" * 9: claim}, {1: claim}, [("a", claim)], {"a": None},
                            {"a": claim, "b": ("prime", 1)}, {("a",): claim}, Book()]:
            if wrong != {}:
                self.refuses(errors.InvalidClaim, follows, claim, ("sum", "a", "a"), wrong)
                self.refuses(errors.InvalidClaim, follows, None, None, wrong)
        self.assertFalse(follows(claim, ("sum", "a", "a"), {}))


def good_book():
    """A book with papers and steps."""
    book = Book()
    book.state("one", *within_answer(0, 2, LINE, GENS))
    book.state("lot", *lots_answer(0, 2, GENS, OTHERS))
    book.lean("two", ("within", 0, 2, form_product(0, 2, LINE, A), GENS), ("times", "one", A))
    book.lean("three", ("within", 0, 2, form_product(0, 2, LINE, A), OTHERS), ("through", "two", "lot"))
    book.lean("back", ("same lot", 0, 2, OTHERS, GENS), ("turned", "lot"))
    book.state("seven", *prime_answer(7))
    return book


class Deeds(Case):
    def refused(self, book, error, call, *args, **more):
        """A call that is refused changes nothing."""
        before, changes, text = book.rows(), book.changes, str(book)
        with self.assertRaises(error) as caught:
            call(*args, **more)
        self.assertIs(type(caught.exception), error)
        self.assertEqual((book.rows(), book.changes, str(book)), (before, changes, text))
        return caught.exception

    def test_state(self):
        book = Book()
        self.assertEqual((book.state("a", ("split", 91), (7, 13)), book.changes, len(book)), (("a",), 1, 1))
        for name in ODD + ["a", "A", "", "abcdefghi", "a b", "a1", "\u00e4", Book(), ("a",)]:
            if name != "text":
                self.refused(book, errors.InvalidName, book.state, name, None, None)
        for claim in ODD + [("prime", 1), ["split", 91]]:
            self.refused(book, errors.InvalidClaim, book.state, "b", claim, None)
        for paper in ODD + [(7, 12), (7, 13, 1), [7, 13]]:
            self.assertEqual(self.refused(book, errors.Refused, book.state, "b", SPLIT, paper).reason, ("paper",))
        self.assertEqual(book.state("abcdefgh", SPLIT, (13, 7)), ("abcdefgh",))
        self.assertEqual(book.rows(), (("a", SPLIT, ("paper", (7, 13))), ("abcdefgh", SPLIT, ("paper", (13, 7)))))

    def test_lean(self):
        book = good_book()
        claim = ("within", 0, 2, plus(0, LINE, LINE), GENS)
        for name in ("one", "One", None, "a" * 9):
            self.refused(book, errors.InvalidName, book.lean, name, None, None)
        self.refused(book, errors.InvalidClaim, book.lean, "x", ("prime", 1), None)
        self.refused(book, errors.InvalidOperation, book.lean, "x", claim, ("paper", ()))
        self.assertEqual(self.refused(book, errors.UnknownName, book.lean, "x", claim, ("sum", "one", "none")).name, "none")
        self.assertEqual(self.refused(book, errors.UnknownName, book.lean, "x", claim, ("sum", "no", "none")).name, "no")
        self.assertEqual(self.refused(book, errors.UnknownName, book.lean, "x", claim, ("sum", "x", "one")).name, "x")
        self.assertEqual(self.refused(book, errors.Refused, book.lean, "x", claim, ("sum", "one", "two")).reason, ("step",))
        self.assertEqual(book.lean("x", claim, ("sum", "one", "one")), ("x",))
        self.assertEqual((book.reason("x"), book.claim("x"), book.leans("x")), (("sum", "one", "one"), claim, ("one",)))
        self.assertIsNone(book.audit())

    def test_sixty_lines(self):
        names = [x + y for x in "abcdefgh" for y in "abcdefgh"]
        book = Book()
        for name in names[:60]:
            book.state(name, SPLIT, (7, 13))
        self.assertEqual(self.refused(book, errors.TooMany, book.state, "z", SPLIT, (7, 13)).limit, 60)
        self.refused(book, errors.Refused, book.state, "z", SPLIT, (7, 14))
        other = Book()
        other.state("z", SPLIT, (7, 13))
        self.assertEqual(self.refused(book, errors.TooMany, book.join, other).limit, 60)
        self.assertEqual(book.join(Book()), ())
        self.assertIsNone(book.audit())
        self.assertEqual(len(Book.told(book.rows())), 60)
        row = (("z", SPLIT, ("paper", 1)),)
        self.refuses(errors.InvalidClaim, Book.told, book.rows() + row)
        self.assertEqual(other.join(Book.told(book.rows()[:59])), tuple(names[:59]))
        lot = Book()
        lot.state("aa", *lots_answer(0, 2, GENS, OTHERS))
        for k, name in enumerate(names[1:60]):
            lot.lean(name, ("same lot", 0, 2) + ((OTHERS, GENS) if k % 2 == 0 else (GENS, OTHERS)), ("turned", names[k]))
        self.assertEqual(lot.leans(names[59]), tuple(names[:59]))
        claim = ("same lot", 0, 2, GENS, OTHERS)
        self.refused(lot, errors.TooMany, lot.lean, "z", claim, ("turned", names[59]))
        self.refused(lot, errors.Refused, lot.lean, "z", claim, ("turned", names[58]))
        self.assertEqual(lot.strike("aa"), tuple(names[:60]))

    def test_strike(self):
        book = good_book()
        for name in ODD + ["none", "ONE", Book()]:
            self.assertIs(self.refused(book, errors.UnknownName, book.strike, name).name, name)
        self.assertEqual(book.strike("two"), ("two", "three"))
        self.assertEqual(book.names, ("one", "lot", "back", "seven"))
        self.assertEqual(book.strike("lot"), ("lot", "back"))
        self.assertEqual((book.undo(), book.undo(), book.names), (
            4, 6, ("one", "lot", "two", "three", "back", "seven")))
        self.assertIsNone(book.audit())

    def test_rename(self):
        book = good_book()
        names = book.names
        same = {name: name for name in names}
        for wrong in ODD + [{}, {"one": "x"}, dict(same, x="y"), dict(same, one="lot"), dict(same, one="ONE"),
                            dict(same, one=""), dict(same, one=1), dict(same, one=["a"]), list(same), tuple(same.items()),
                            {name: "x" for name in names}, dict(same, one=None), Book()]:
            self.refused(book, errors.InvalidOperation, book.rename, wrong)
        self.assertEqual(book.rename(same), names)
        # Names exchanged, also in steps.
        turned = dict(same, one="two", two="one", lot="l")
        before = book.rows()
        self.assertEqual(book.rename(turned), ("two", "l", "one", "three", "back", "seven"))
        self.assertEqual([line[2] for line in book.rows()[2:5]], [("times", "two", A), ("through", "one", "l"), ("turned", "l")])
        self.assertEqual((book.audit(), book.leans("three")), (None, ("two", "l", "one")))
        self.assertEqual((book.undo(), book.rows()), (6, before))
        self.assertEqual((Book().rename({}), names), ((), same and names))

    def test_join(self):
        book, other = good_book(), Book()
        other.state("x", SPLIT, (7, 13))
        for wrong in ODD + [Shell(), Book, other.rows()]:
            self.refused(book, errors.InvalidOperation, book.join, wrong)
        self.assertEqual(self.refused(book, errors.Refused, book.join, book).reason, ("name", "one"))
        self.assertEqual(self.refused(book, errors.Refused, book.join, book.twin()).reason, ("name", "one"))
        self.assertEqual(book.join(other), ("x",))
        self.assertEqual(book.rows()[-1:], other.rows())
        other.state("one", SPLIT, (7, 13))
        # The first name of the other book that this one has.
        self.assertEqual(self.refused(book, errors.Refused, book.join, other).reason, ("name", "x"))
        book.strike("x")
        self.assertEqual(self.refused(book, errors.Refused, book.join, other).reason, ("name", "one"))
        # Books that go on by themselves.
        other.strike("x")
        self.assertEqual(len(book), 6)
        fresh = Book()
        self.assertEqual(fresh.join(fresh), ())
        self.assertEqual(fresh.join(book), book.names)
        self.assertEqual((fresh == book, fresh.changes, fresh.audit()), (True, 2, None))

    def test_undo_and_redo(self):
        book = good_book()
        self.assertEqual((book.changes, book.undo(many=0), book.redo(many=0)), (6, 6, 6))
        for call in (book.undo, book.redo):
            for many in ODD + [-1, BIG + 1, True]:
                if not (isinstance(many, int) and not isinstance(many, bool) and 0 <= many <= BIG):
                    self.assertIs(self.refused(book, errors.InvalidNumber, call, many=many).given, many)
            self.refuses(TypeError, call, 1)
        self.assertEqual(self.refused(book, errors.NothingToUndo, book.undo, many=7).wanted, 7)
        self.assertEqual(self.refused(book, errors.NothingToUndo, book.redo).wanted, 1)
        self.assertEqual((book.undo(many=2), book.undo(), book.changes, book.names), (4, 3, 3, ("one", "lot", "two")))
        self.assertEqual((book.redo(many=2), book.changes), (5, 5))
        self.assertEqual(self.refused(book, errors.NothingToUndo, book.redo, many=2).wanted, 2)
        book.strike("back")
        # Behind another change nothing is done again.
        self.assertEqual(self.refused(book, errors.NothingToUndo, book.redo).wanted, 1)
        self.assertEqual((book.undo(many=6), len(book), book.changes), (0, 0, 0))
        self.assertEqual((book.redo(many=6), book.audit()), (4, None))
        # A refused call leaves what can be done again.
        book.undo()
        self.refused(book, errors.Refused, book.state, "x", SPLIT, ())
        self.assertEqual(book.redo(), 4)

    def test_twin(self):
        book = good_book()
        book.undo()
        twin = book.twin()
        self.assertTrue(twin == book and twin is not book)
        self.assertEqual((twin.changes, twin.redo(), twin.changes, book.changes), (5, 6, 6, 5))
        self.assertFalse(twin == book)
        twin.strike("one")
        self.assertEqual((len(twin), len(book), book.redo()), (3, 5, 6))
        self.assertEqual((twin.undo(many=7), len(book), book.undo(many=6), len(twin)), (0, 6, 0, 0))

    def test_least(self):
        book = good_book()
        least = book.least("three")
        self.assertEqual((least.names, least.changes, least.audit()), (("one", "lot", "two", "three"), 0, None))
        self.refuses(errors.NothingToUndo, least.undo)
        self.assertEqual((book.leans("three"), book.leans("one"), book.leans("back")), (("one", "lot", "two"), (), ("lot",)))
        for call in (book.leans, book.least, book.claim, book.reason):
            for name in ODD + ["none", Book()]:
                self.assertIs(self.refused(book, errors.UnknownName, call, name).name, name)
        least.strike("one")
        self.assertEqual(len(book), 6)

    def test_the_rest_stands_without_a_line_and_all_that_lean_on_it(self):
        # [19.3]
        for name in good_book().names:
            book = good_book()
            book.strike(name)
            self.assertIsNone(book.audit())
            self.assertIsNone(good_book().least(name).audit())


class Told(Case):
    def test_what_is_no_row(self):
        line = ("a", SPLIT, ("paper", None))
        self.assertEqual(Book.told((line,)).rows(), (line,))
        self.assertEqual(Book.told(()), Book())
        for wrong in [value for value in ODD if value != ()] + [
                (line, line), [line], (list(line),), (line[:2],), (line + (1,),), (("A",) + line[1:],), (("",) + line[1:],),
                (("a" * 9,) + line[1:],), ((1,) + line[1:],), (("a", ("prime", 1), ("paper", None)),), (("a", None, None),),
                (("a", SPLIT, ("paper",)),), (("a", SPLIT, ("paper", 1, 2)),), (("a", SPLIT, None),), (line[0],),
                (("a", SPLIT, ["paper", 1]),), (("a", SPLIT, ("papers", 1)),), (("a", SPLIT, ("paper", Book())),),
                (("a", SPLIT, ("paper", (1, [Shell()]))),), (("a", SPLIT, ("turned", "a")),), (("a", SPLIT, ("turned", "b")), line),
                (("a", SPLIT, ("paper", {1: errors.Refused(1)})),), (line, ("b", SPLIT, ("sum", "a", "c")), ("c",) + line[1:])]:
            self.refuses(errors.InvalidClaim, Book.told, wrong)

    def test_any_value_without_objects_is_told(self):
        for value in [one for one in ODD if not isinstance(one, Exception)] + [nested(lambda x: [x], 30), {"a": [1], 1: None}]:
            book = Book.told((("a", SPLIT, ("paper", value)),))
            self.assertEqual(book.rows(), (("a", SPLIT, ("paper", value)),))
            self.assertEqual(book.audit(), "a")

    def test_audit(self):
        good = good_book().rows()
        self.assertIsNone(Book.told(good).audit())
        # Wrong papers, papers of other claims, steps that do not follow, lines that lean on false ones.
        for at, line in enumerate(good):
            name, claim, reason = line
            for other in (("paper", None), ("paper", (1,)), ("sum", "one", "one"), good[0][2]):
                if other == reason:
                    continue
                told = good[:at] + ((name, claim, other),) + good[at + 1:]
                if any(wanted not in [one[0] for one in good[:at]] for wanted in other[1:] if other[0] == "sum"):
                    self.refuses(errors.InvalidClaim, Book.told, told)
                else:
                    self.assertEqual(Book.told(told).audit(), name)
        false = ("within", 0, 2, {(0, 0): ONE}, GENS)
        book = Book.told((("a", false, ("paper", ({}, {}))), ("b", ("within", 0, 2, {(0, 0): TWO}, GENS), ("sum", "a", "a"))))
        self.assertEqual(book.audit(), "a")
        # The line that leans on a false one follows; what does not stand is the first one.
        self.assertTrue(follows(book.claim("b"), book.reason("b"), {"a": false}))
        # A true claim that leans on a line that does not stand.
        book = Book.told((("a", false, ("paper", None)), ("b", ("within", 0, 2, {}, GENS), ("times", "a", {}))))
        self.assertEqual((book.audit(), book.leans("b"), takes(book.claim("b"), ({}, {}))), ("a", ("a",), True))

    def test_books_of_strangers(self):
        source = random.Random(2)
        found = set()
        for _ in range(4):
            lines = []
            for at, (claim, paper) in enumerate(answers(source)[:50]):
                name = "n" + "abcdefghij"[at // 10] + "abcdefghij"[at % 10]
                lines.append((name, claim, ("paper", paper if source.random() < 0.95 else near(source, paper))))
            book = Book.told(tuple(lines))
            wrong = [name for name, claim, (_, paper) in lines if not is_paper(claim, paper)]
            self.assertEqual(book.audit(), wrong[0] if wrong else None)
            found.add(book.audit() is None)
            for name in wrong:
                book.strike(name)
            self.assertIsNone(book.audit())
        self.assertIn(False, found)


class Values(Case):
    def test_in(self):
        book = good_book()
        for name in book.names:
            self.assertIn(name, book)
        for value in ODD + ["none", Book(), Shell(), ("one",), ["one"], {"one": 1}]:
            self.assertIs(value in book, False)

    def test_equal(self):
        book = good_book()
        self.assertTrue(book == good_book() and not book != good_book())
        for value in ODD + [Book(), Shell(), book.rows(), str(book), Book]:
            self.assertIs(book == value, False)
            self.assertIs(book != value, True)
        # The sequence of lines counts, what can be taken back does not.
        one, two = Book.told(book.rows()[:2]), Book.told(book.rows()[1::-1])
        self.assertFalse(one == two)
        self.assertEqual(Book.told(book.rows()), book)
        twice = Book.told((("a", SPLIT, ("paper", 1)),))
        self.assertFalse(twice == Book.told((("a", SPLIT, ("paper", 2)),)))
        self.assertFalse(twice == Book.told((("b", SPLIT, ("paper", 1)),)))

    def test_len_and_str(self):
        book = Book()
        self.assertEqual((len(book), str(book), book.names, book.changes, book.rows(), book.audit()),
                         (0, "book of 0 lines, 0 by steps", (), 0, (), None))
        self.assertEqual(str(good_book()), "book of 6 lines, 3 by steps")
        book.state("a", SPLIT, (7, 13))
        self.assertEqual((len(book), str(book)), (1, "book of 1 lines, 0 by steps"))

    def test_books_are_not_iterated_over(self):
        for thing in (Book(), good_book(), Shell()):
            with self.assertRaises(TypeError):
                for _ in thing:
                    pass
            self.refuses(TypeError, list, thing)

    def test_nothing_is_shared(self):
        form = {(1, 0): ONE, (0, 1): LESS}
        gens, paper = (form,), ({(0, 0): ONE},)
        book = Book()
        claim = ("within", 0, 2, form, gens)
        book.state("a", claim, paper)
        step = {(1, 0): TWO}
        book.lean("b", ("within", 0, 2, times(0, form, step), gens), ("times", "a", step))
        before = book.rows()
        for thing in (form, paper[0], step, book.claim("a")[3], book.claim("a")[4][0], book.reason("a")[1][0],
                      book.reason("b")[2], book.rows()[0][1][3], book.least("b").rows()[0][1][3]):
            thing.clear()
        self.assertEqual(book.rows(), before)
        self.assertEqual(list(before[0][1][3]), [(0, 1), (1, 0)])
        inside = [1, {2: [3]}]
        told = Book.told((("a", SPLIT, ("paper", inside)),))
        inside.append(4)
        inside[1][2].append(5)
        told.reason("a")[1].append(6)
        self.assertEqual(told.rows(), (("a", SPLIT, ("paper", [1, {2: [3]}])),))
        twin = told.twin()
        twin.rows()[0][2][1].append(7)
        self.assertEqual(told, twin)


class Rows(Case):
    def test_the_audit_behind_rows_of_deeds(self):
        # [19.4]
        source = random.Random(3)
        pool = [answer for _ in range(3) for answer in answers(source)]
        for _ in range(6):
            books = [Book(), Book()]
            for _ in range(60):
                book = source.choice(books)
                self.deed(source, book, books, pool)
                self.assertIsNone(book.audit())
                self.assertLessEqual(len(book), 60)

    def deed(self, source, book, books, pool):
        name = "".join(source.choice("ab") for _ in range(source.randint(1, 3)))
        kind = source.randrange(9)
        names = book.names
        try:
            if kind < 3:
                claim, paper = source.choice(pool)
                book.state(name, claim, paper if source.random() < 0.8 else near(source, paper))
            elif kind == 3 and names:
                one = source.choice(names)
                claim = book.claim(one)
                for reason, made in ((("turned", one), claim[:3] + claim[4:2:-1]), (("sum", one, one), claim)):
                    book.lean(name, made, reason)
            elif kind == 4 and names:
                book.strike(source.choice(names))
            elif kind == 5:
                book.rename({old: old[::-1] + source.choice("cd") for old in names})
            elif kind == 6:
                book.join(source.choice(books).twin())
            elif kind == 7:
                book.undo(many=source.randint(0, 3))
            else:
                book.redo(many=source.randint(0, 2))
        except (errors.PaperError, errors.Refused, errors.UnknownName, errors.NothingToUndo, errors.TooMany):
            pass

    def test_steps_from_answers(self):
        source = random.Random(4)
        book = Book()
        gens = tuple(random_form(source, 0, 2, 2, 3, 3) for _ in range(2))
        forms = [times(0, gens[k % 2], random_form(source, 0, 2, 1, 2, 2)) for k in range(3)]
        for name, form in zip("abc", forms):
            book.state(name, *within_answer(0, 2, form, gens))
        total = plus(0, forms[0], forms[1])
        book.lean("d", ("within", 0, 2, total, gens), ("sum", "a", "b"))
        book.lean("e", ("within", 0, 2, plus(0, total, forms[2]), gens), ("sum", "d", "c"))
        book.state("l", *lots_answer(0, 2, gens, gens[::-1]))
        book.lean("f", ("within", 0, 2, plus(0, total, forms[2]), gens[::-1]), ("through", "e", "l"))
        book.lean("g", ("same lot", 0, 2, gens[::-1], gens), ("turned", "l"))
        book.lean("h", ("same lot", 0, 2, gens, gens), ("chain", "l", "g"))
        f = ((2, 1), (-3, 1), ONE, ZERO, ONE)
        book.state("i", *roots_answer(f, None, HALF))
        book.state("j", *roots_answer(f, HALF, None))
        book.lean("k", ("roots", f, None, None, book.claim("i")[4] + book.claim("j")[4]), ("beside", "i", "j"))
        self.assertEqual(book.claim("k"), roots_answer(f, None, None)[0])
        book.state("m", *fraction_parts_answer((LESS, ZERO, ONE)))
        book.state("n", *fraction_parts_answer((TWO, TWO)))
        claim = fraction_parts_answer(((-2, 1), (-2, 1), TWO, TWO))[0]
        book.lean("o", claim, ("parts", "m", "n"))
        book.state("p", *parts_answer(5, (4, 0, 1)))
        book.lean("q", parts_answer(5, poly_times(5, (4, 0, 1), (4, 0, 1)))[0], ("parts", "p", "p"))
        book.state("r", *every_answer(*solve_answer(0, ((TWO, ONE), (ONE, LESS)), (ONE, TWO))))
        for name, prime in (("s", 2), ("t", 5), ("u", 9973)):
            led = solve_answer(prime, tuple(tuple(x[0] % prime for x in row) for row in ((TWO, ONE), (ONE, LESS))),
                               (1, 2 % prime))[0]
            book.lean(name, ("solved",) + led[1:], ("at", "r", prime))
        self.assertIsNone(book.audit())
        self.assertEqual(str(book), "book of 21 lines, 11 by steps")
        self.assertEqual(book.leans("f"), ("a", "b", "c", "d", "e", "l"))
