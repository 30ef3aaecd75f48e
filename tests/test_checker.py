"""Stage 18: the checker."""
import random

from forms import plus, power as form_power, random_form, times
from helping import BIG, HALF, LESS, ODD, ONE, TWO, ZERO, Case
from judging import LIKE, MADE, OPPOSITES, is_made, is_paper
from polys import made, times as poly_times
from sampling import answers, near

from zeroorone import errors
from zeroorone.book.book import Book
from zeroorone.letter.modparts import unsplit_answer
from zeroorone.paper.checker import is_claim, kinds, opposite, takes
from zeroorone.text.shell import Shell

KINDS = """alike; all primes but; alone; barred; basis; common; complex points; divisor; endless; escapes; finite; follows;
    form parts; free; greatest; happens; joined; least poly; meet; mixed; never; never joined; never mixed; never reached;
    never whole; no greatest; no point; no rests; outside; parted; parted form; parts; point; prime; prime parts; quotient;
    rank; reached; real points; rests; resultant; root order; roots; same lot; sign; signed points; solved; split;
    square parts; stairs; steps; tables; taken out; unlike; unlike lots; unsplit; unsplit form; whole; within"""
A, B = {(1, 0): ONE}, {(0, 1): ONE}
ROOT = ((-2, 1), ZERO, ONE)
CHAIN = ((ONE,), (ROOT, (ZERO, TWO), (TWO,)), ((ONE, (ZERO, HALF), ONE),))
BELOW, ABOVE = ((ONE,), ((LESS, ONE), (ONE,)), ()), ((ONE,), (((-2, 1), ONE), (ONE,)), ())
EMPTY = ((), (), ())

# True claims and papers of each kind, and values near the papers; written by hand.
BY_HAND = [
    (("divisor", 12, -18, 6), [(-1, -1, 2, -3), (2, 1, 2, -3)], [(-1, -1, 2, 3), (1, 1, 2, -3), (-1, -1, 2)]),
    (("divisor", 0, 0, 0), [(5, -7, 0, 9)], [(5, -7, 0), None]),
    (("rests", ((4, 1), (6, 3))), [9, -3, 21], [8, True, (9,)]),
    (("no rests", ((4, 1), (1, 0), (6, 2))), [(0, 2, 2)], [(0, 2, 1), (2, 0, 2), (0, 1, 1), (0, 2, -2), (0, 3, 2)]),
    (("prime", 2), [()], [((3, 2, ((2, 1),)),)]),
    (("prime", 7), [((3, 2, ((2, 1),)), (7, 3, ((2, 1), (3, 1)))),
                    ((3, 2, ((2, 1),)), (5, 2, ((2, 2),)), (7, 5, ((2, 1), (3, 1))))],
     [(), ((7, 3, ((2, 1), (3, 1))),), ((3, 2, ((2, 1),)), (7, 2, ((2, 1), (3, 1)))),
      ((3, 2, ((2, 1),)), (7, 3, ((3, 1), (2, 1)))), ((3, 2, ((2, 1),)), (7, 10, ((2, 1), (3, 1)))),
      ((2, 1, ()), (3, 2, ((2, 1),)), (7, 3, ((2, 1), (3, 1))))]),
    (("split", 91), [(7, 13), (13, 7)], [(91, 1), (-7, -13), (7, 13, 1), [7, 13]]),
    (("prime parts", 12, ((2, 2), (3, 1))), [((), ((3, 2, ((2, 1),)),))], [((),), (((3, 2, ((2, 1),)),), ())]),
    (("prime parts", 1, ()), [()], [((),)]),
    (("solved", 5, ((1, 2), (2, 4)), (3, 1)), [(3, 0), (1, 1)], [(3, 1), (3,), (8, 0), (3, 0, 0)]),
    (("barred", 5, ((1, 2), (2, 4)), (3, 2)), [(3, 1)], [(1, 2), (3, 1, 0), (8, 1)]),
    (("rank", 0, ((ONE, TWO), (TWO, (4, 1))), 1), [((0,), (0,), ((ONE,),), ((ONE,), (TWO,))),
                                                   ((1,), (1,), (((1, 4),),), ((HALF,), (ONE,)))],
     [((0,), (2,), ((ONE,),), ((ONE,), (TWO,))), ((0,), (0,), ((ONE,),), ((ONE,), (ONE,))), ((), (), (), ((), ()))]),
    (("rank", 2, ((0, 0),), 0), [((), (), (), ((),))], [((), (), (), ()), ((0,), (), (), ((),))]),
    (("whole", ((2, 3),), (1,)), [(-1, 1), (2, -1)], [(1, 1), (HALF, ZERO), (2, -1, 0)]),
    (("never whole", ((2, 4),), (3,)), [(HALF,), ((-1, 2),)], [(ONE,), ((1, 8),), ((2, 4),)]),
    (("stairs", ((2,), (3,)), ((1,),)), [(((-1, 1),), ((2,), (3,)))], [(((1, 1),), ((2,), (3,))), (((-1, 1),), ((2,),))]),
    (("stairs", ((0, 0),), ()), [((), ((),))], [((), ()), (((),), ((),))]),
    (("steps", ((2, 0), (0, 3)), (1, 6)), [((((0,), (0,), -1), ((1,), (1,), 1)), (((0, 1), (0, 1), 1),))],
     [((((0,), (0,), 1),), (((0, 1), (0, 1), 1),)), ((((0,), (0,), -1), ((1,), (1,), 1)),)]),
    (("reached", ((ONE,), (LESS,)), (ZERO, LESS)), [(ONE,), (HALF,)], [(TWO,), (LESS,)]),
    (("never reached", ((ONE,), (LESS,)), (ONE, ZERO)), [(ONE, ONE)], [(TWO, TWO), (LESS, LESS), (ONE, ZERO)]),
    (("greatest", ((ONE,), (LESS,)), (ZERO, LESS), (TWO,), TWO), [((ONE,), (ZERO, TWO))],
     [((HALF,), (ZERO, TWO)), ((ONE,), (ONE, (3, 1))), ((ONE,),)]),
    (("no greatest", ((ONE,),), (ZERO,), (TWO,)), [((ONE,), (HALF,))], [((LESS,), (HALF,)), ((ONE,), (ONE,))]),
    (("follows", ((ONE,),), (ONE,), (TWO,), ONE), [("sum", (TWO,))], [("sum", (ONE,)), ("never", (TWO,)), ("", (TWO,))]),
    (("follows", ((ZERO,),), (ONE,), (TWO,), ONE), [("never", (ONE,))], [("sum", (ONE,)), ("never", (TWO,))]),
    (("escapes", ((ONE,),), (ONE,), (TWO,), (3, 1)), [(ONE,)], [((3, 2),), (ZERO,)]),
    (("common", 5, (4, 0, 1), (1, 2, 1), (1, 1)), [((2,), (3,), (4, 1), (1, 1))], [((2,), (3,), (4, 1), (1, 2)), ()]),
    (("common", 0, (), (), ()), [((ONE,), (), (), (TWO,))], [((ONE,), (), ())]),
    (("mixed", 5, (4, 0, 1), (1, 2, 1), (2, 2)), [((4,), (1,))], [((4,), (2,)), ((4,), (1, 0))]),
    (("never mixed", 5, (0, 1), (0, 0, 1), (1,)), [((0, 1), (1,), (0, 1), (), (1,))], [((0, 2), (3,), (0, 3), (), (2,))]),
    (("joined", 5, (((0, 1), (1,)), ((4, 1), (3,)))), [((1, 2), ((2,), (2,)))], [((1, 2), ((2,),)), ((1,), ((), ()))]),
    (("joined", 5, ()), [((), ()), ((1, 1), ())], [((), ((),)), ()]),
    (("never joined", 5, (((0, 1), (1,)), ((0, 1), (2,)))), [(0, 1, (0, 1), (1,), (1,), (), (4,))],
     [(0, 1, (0, 1), (1,), (1,), (), (1,)), (1, 0, (0, 1), (1,), (1,), (), (1,)), (0, 1, (1,), (0, 1), (0, 1), (4,), ())]),
    (("square parts", 2, (0, 0, 1), (((0, 1), 2),)), [((((), (1,)),), ())], [((), ()), ((((1,), (1,)),), ())]),
    (("square parts", 2, (1,), ()), [((), ())], [((),), ()]),
    (("resultant", 5, (3, 0, 1), (4, 1), 4), [((1, 1),)], [(), ((1, 1), ()), ((1, 2),)]),
    (("resultant", 5, (1, 1), (3,), 3), [()], [((),)]),
    (("unsplit", 2, (1, 1, 1)), [(((), (1,)),), (((1,), (0, 1, 1)),)], [(), (((1,), ()),), (((), (1,)), ((), (1,)))]),
    (("unsplit", 7, (3, 1)), [()], [((),)]),
    (("unsplit", 0, (TWO, ONE)), [()], [(3, 1, ((2, 1),), ((),))]),
    (("parted", 2, (1, 0, 1)), [((1, 1), (1, 1))], [((1, 0, 1), (1,)), ((1, 1), (0, 1))]),
    (("parts", 2, (0, 0, 1, 1), (((0, 1), 2), ((1, 1), 1))), [((), ())], [((),), ((), (), ())]),
    (("roots", ROOT, None, None, 2), [CHAIN], [(), CHAIN[:2], ((TWO,),) + CHAIN[1:]]),
    (("roots", (TWO,), ZERO, None, 0), [()], [CHAIN]),
    (("alone", ROOT, ZERO, None), [CHAIN], [(), (CHAIN,)]),
    (("sign", ROOT, (LESS, ONE), ZERO, TWO, 1), [(CHAIN, ONE, TWO, CHAIN, BELOW), (CHAIN, (4, 3), (3, 2), CHAIN, BELOW)],
     [(CHAIN, ZERO, TWO, CHAIN, BELOW), (CHAIN, ONE, (3, 1), CHAIN, BELOW), (CHAIN, TWO, ONE, CHAIN, BELOW)]),
    (("sign", ROOT, (), ZERO, None, 0), [(CHAIN, ROOT, (ONE,), (), CHAIN)], [(CHAIN, ROOT, (ONE,), (ONE,), CHAIN)]),
    (("root order", ROOT, ZERO, None, ((-2, 1), ONE), None, None, -1), [(CHAIN, ABOVE, (3, 2), CHAIN, ABOVE)],
     [(CHAIN, ABOVE, (3, 2), (), ABOVE), (CHAIN, ABOVE, (3, 2), CHAIN, ()), (CHAIN, ABOVE, TWO, CHAIN, ABOVE)]),
    (("root order", ((-2, 1), ONE), (3, 2), None, ROOT, ZERO, (3, 2), 1), [(CHAIN, ABOVE, (3, 2), (), ()),
                                                                          (CHAIN, ABOVE, (3, 2), CHAIN, ())],
     [(ABOVE, CHAIN, (3, 2), (), ()), (CHAIN, ABOVE, (4, 3), (), ()), (CHAIN, ABOVE, (5, 3), (), ())]),
    (("basis", 0, 2, "lex", (A, A), (A,)), [((({}, {(0, 0): ONE}),), (({(0, 0): ONE},), ({(0, 0): ONE},)), ()),
                                            ((({(0, 0): HALF}, {(0, 0): HALF}),),
                                             (({(0, 0): ONE},), ({(0, 0): ONE},)), ())],
     [((({}, {(0, 0): TWO}),), (({(0, 0): ONE},), ({(0, 0): ONE},)), ()), EMPTY]),
    (("within", 0, 2, {(1, 1): ONE}, (A, B)), [(B, {}), ({}, A), ({(0, 1): HALF}, {(1, 0): HALF})], [(B, A), (B,)]),
    (("outside", 0, 2, A, ()), [("deg", (), EMPTY, (), A), ("lex", (), EMPTY, (), A)],
     [("deg", (), EMPTY, (), {}), ("deg", (), EMPTY, (), B), ("first", (), EMPTY, (), A)]),
    (("same lot", 0, 2, (A,), ({(1, 0): TWO},)), [((({(0, 0): HALF},),), (({(0, 0): TWO},),))], [((), ()), ((({},),), ())]),
    (("unlike lots", 0, 2, (A,), ()), [(0, 0, ("deg", (), EMPTY, (), A))],
     [(1, 0, ("deg", (), EMPTY, (), A)), (0, 1, ("deg", (), EMPTY, (), A)), (False, 0, ("deg", (), EMPTY, (), A))]),
    (("taken out", 0, 2, (), 1, ()), [((), EMPTY)], [((), ()), (EMPTY, ())]),
    (("meet", 0, 1, (), (), ()), [((), EMPTY)], [((),)]),
    (("free", 0, 2, (), 2), [((), EMPTY)], [((), ())]),
    (("finite", 0, 1, ({(0,): TWO},), 0), [("deg", ({(0,): ONE},), ((({(0,): HALF},),), (({(0,): TWO},),), ()))],
     [("deg", (), EMPTY)]),
    (("endless", 0, 2, ()), [("deg", (), EMPTY, 0), ("lex", (), EMPTY, 1)], [("deg", (), EMPTY, 2), ("deg", (), EMPTY)]),
    (("tables", 0, 1, ({(1,): ONE},), ((0,),), (((ZERO,),),)),
     [(({(1,): ONE},), ((({(0,): ONE},),), (({(0,): ONE},),), ()), ((({(0,): ONE},),),))],
     [(({(1,): ONE},), ((({(0,): ONE},),), (({(0,): ONE},),), ()), ((({},),),))]),
    (("least poly", 0, 1, ({(0,): ONE},), {(1,): ONE}, (ONE,)),
     [(({(0,): ONE},), "deg", ({(0,): ONE},), ((({(0,): ONE},),), (({(0,): ONE},),), ()), (), (), None)],
     [(({(0,): ONE},), "deg", ({(0,): ONE},), ((({(0,): ONE},),), (({(0,): ONE},),), ()), (), (), ())]),
    (("point", 5, 1, ({(2,): 1, (0,): 4},), ({(1,): 1, (0,): 1},)), [((0, 1), ((1,),), ((3,),)), ((4, 1), ((1,),), ((3,),))],
     [((0, 1), ((4,),), ((),)), ((0, 1), ((1,),), ()), ((1,), ((),), ((),)), ((0, 1), ((1, 0),), ((3,),))]),
    (("no point", 0, 1, ({(2,): ONE},), ({(1,): TWO},)), [(2, ({(0,): (4, 1)},)), (3, ({(1,): (8, 1)},))],
     [(1, ({(0,): (4, 1)},)), (0, ({},)), (2, ()), (2, ({(0,): (4, 1)}, {}))]),
    (("no point", 0, 1, (), ({},)), [(1, ()), (5, ())], [(0, ()), (-1, ())]),
    (("happens", 1, ("or", ("is", {(0,): ONE}), ("is", {(1,): ONE}))), [(1, (ZERO, ONE), ((),), ())],
     [(0, (ZERO, ONE), ((),), ()), (2, (ZERO, ONE), ((),), ()), (True, (ZERO, ONE), ((),), ())]),
    (("never", 1, ("and", ("is", {(1,): ONE}), ("not", ("is", {(1,): ONE})))), [((1, ({(0,): ONE},)),)], [(), ((0, ({},)),)]),
    (("alike", 1, ("is", {(1,): ONE}), ("is", {(1,): TWO})), [(((1, ({(0,): TWO},)),), ((1, ({(0,): HALF},)),))], [((), ())]),
    (("unlike", 1, ("is", {}), ("is", {(1,): ONE})), [(0, (0, (ZERO, ONE), ((ONE,),), ((ONE,),)))],
     [(1, (0, (ZERO, ONE), ((ONE,),), ((ONE,),)))]),
    (("parted form", 2, {(2, 0): ONE, (0, 2): LESS}), [({(1, 0): ONE, (0, 1): ONE}, {(1, 0): ONE, (0, 1): LESS})],
     [({(1, 0): ONE, (0, 1): ONE}, {(1, 0): ONE, (0, 1): ONE}), ({(2, 0): ONE, (0, 2): LESS}, {(0, 0): ONE})]),
    (("unsplit form", 2, {(1, 0): ONE, (0, 1): TWO}),
     [((0,), (0,), ((ZERO, ONE),), ((),), (A,)), ((1,), (5,), (((10, 3), ONE),), ((),), ({(0, 0): (10, 3), (1, 0): ONE},))],
     [((0,), (), ((ZERO, ONE),), ((),), (A,)), ((False,), (0,), ((ZERO, ONE),), ((),), (A,)),
      ((0,), (1,), ((ZERO, ONE),), ((),), (A,))]),
    (("form parts", 1, {(0,): TWO}, TWO, ()), [()], [((),)]),
    (("all primes but", ("solved", 0, ((TWO,),), (ONE,)), 2), [(HALF,)], [(ONE,), ()]),
]


class Examples(Case):
    def test_examples(self):
        self.assertEqual(
            [takes(("divisor", 12, 18, 6), (-1, 1, 2, 3)), takes(("divisor", 12, 18, 6), (2, -1, 2, 3)),
             takes(("divisor", 12, 18, 3), (-1, 1, 4, 6)), takes(("split", 91), (7, 13)), takes(("prime", 2), ())],
            [True, True, False, True, True])
        self.assertEqual(
            [is_claim(("prime", 1)), is_claim(("prime", 91)), opposite(("prime", 91)),
             opposite(("divisor", 12, 18, 6)), takes(None, None)], [False, True, ("split", 91), None, False])
        self.refuses(errors.InvalidClaim, opposite, ("prime", 1))

    def test_kinds(self):
        self.assertEqual(kinds(), tuple(" ".join(kind.split()) for kind in KINDS.split(";")))
        self.assertEqual(len(kinds()), 59)


class Papers(Case):
    def test_by_hand(self):
        for claim, papers, others in BY_HAND:
            self.assertTrue(is_claim(claim) and is_made(claim), claim)
            for paper in papers:
                self.assertIs(takes(claim, paper), True, (claim, paper))
                self.assertTrue(is_paper(claim, paper))
            for paper in others + ODD[:40]:
                if paper not in papers:
                    self.assertIs(takes(claim, paper), is_paper(claim, paper), (claim, paper))
            for paper in others:
                self.assertIs(takes(claim, paper), False, (claim, paper))

    def test_each_function_and_values_near_its_papers(self):
        source = random.Random(18)
        seen = {}
        for _ in range(12):
            for claim, paper in answers(source):
                seen[claim[0]] = seen.get(claim[0], 0) + 1
                self.assertIs(takes(claim, paper), True, (claim, paper))
                self.assertTrue(is_paper(claim, paper), (claim, paper))
                self.check_opposite(claim, paper)
                for _ in range(6):
                    other = near(source, paper)
                    self.assertIs(takes(claim, other), is_paper(claim, other), (claim, other))
                    further = near(source, claim)
                    self.assertIs(is_claim(further), is_made(further), further)
                    self.assertIs(takes(further, paper), is_paper(further, paper), (further, paper))
        self.assertLessEqual(set(seen), set(kinds()))
        # All kinds are met, but those that such questions seldom have as answers.
        self.assertGreater(len(seen), 55)

    def check_opposite(self, claim, paper):
        """[0.17]: nothing is taken for the opposite claim."""
        other = opposite(claim)
        if other is not None:
            self.assertTrue(is_claim(other))
            for tried in (paper, (), ((),), None, 0):
                self.assertIs(takes(other, tried), False)
            if claim[0] not in ("finite", "endless"):
                self.assertEqual(opposite(other), claim)

    def test_true_is_not_1(self):
        self.assertFalse(takes(("split", 91), (True, 91)))
        self.assertFalse(takes(("rests", ((1, 0),)), True))
        self.assertFalse(takes(("divisor", 1, 1, 1), (True, 0, 1, 1)))
        self.assertFalse(takes(("divisor", 1, 1, 1), (1, False, 1, 1)))
        self.assertTrue(takes(("divisor", 1, 1, 1), (1, 0, 1, 1)))
        self.assertFalse(is_claim(("divisor", True, 1, 1)))
        self.assertFalse(is_claim(("solved", 5, ((True,),), (0,))))
        self.assertFalse(is_claim(("within", 0, 1, {(True,): ONE}, ())))
        self.assertFalse(is_claim(("endless", False, 1, ())))
        self.assertFalse(takes(("within", 0, 1, {(1,): ONE}, ({(1,): ONE},)), ({(False,): ONE},)))
        self.assertFalse(takes(("solved", 5, ((1,),), (1,)), (True,)))

    def test_lists_are_no_tuples(self):
        self.assertFalse(is_claim(["prime", 7]))
        self.assertFalse(is_claim(("rests", [(4, 1)])))
        self.assertFalse(is_claim(("rests", ([4, 1],))))
        self.assertFalse(takes(("split", 91), [7, 13]))
        self.assertFalse(is_claim(("solved", 0, (([2, 1],),), (ONE,))))


class Claims(Case):
    def test_values_that_are_no_claims(self):
        for value in ODD + [Book(), Shell(), ("prime", Book()), (Book(), 7), ("prime",), ("prime", 7, 7), ("primes", 7),
                            ("PRIME", 7), (["prime"], 7), ({}, 7), ((), 7), (None, 7), (True, 7), ("prime", "7"),
                            {"prime": 7}, "prime", ("prime", (7,)), ("divisor", 12, 18),
                            ("divisor", 12, 18, 6, 6), ("divisor", 12, 18, -6), ("within", 0, 2, A, [A]),
                            ("within", 4, 2, {}, ()), ("within", 0, 5, {}, ()), ("within", 0, 0, {}, ()),
                            ("within", 0, 2, {(1,): ONE}, ()), ("within", 0, 2, {(1, 0): ZERO}, ()),
                            ("within", 0, 2, {(1, 0): (2, 2)}, ()), ("within", 0, 2, {(-1, 0): ONE}, ()),
                            ("solved", 0, (), ()), ("solved", 0, ((),), (ONE,)), ("meet", 0, 4, (), (), ()),
                            ("quotient", 0, 2, (), {}, ()), ("basis", 0, 2, "first", (), ()),
                            ("basis", 0, 2, "lex", (), ({},)), ("basis", 0, 2, "lex", (), (A, B)),
                            ("basis", 0, 2, "lex", (), ({(1, 0): TWO},)), ("basis", 0, 2, "lex", (), (A, A)),
                            ("alone", ROOT, ONE, ONE), ("alone", (), None, None), ("alone", ROOT, TWO, ONE),
                            ("sign", ROOT, (), None, None, 2), ("roots", ROOT, None, None, -1),
                            ("parted form", 2, {}), ("unsplit form", 2, {(0, 0): ONE}), ("happens", 2, ("is", 0)),
                            ("happens", 2, ("and",)), ("happens", 2, ("not", ("is", {}), ("is", {}))),
                            ("happens", 5, ("is", {})), ("all primes but", ("prime", 7), 1),
                            ("all primes but", ("solved", 5, ((1,),), (1,)), 1),
                            ("all primes but", ("solved", 0, ((ONE,),), (ONE,)), 0),
                            ("all primes but", ("common", 0, (), (), (TWO,)), 1), ("tables", 0, 1, (), ((0,),), ((),))]:
            self.assertIs(is_claim(value), False, value)
            for paper in ODD[:20] + [value]:
                self.assertIs(takes(value, paper), False)
            self.refuses(errors.InvalidClaim, opposite, value)

    def test_opposite(self):
        source = random.Random(7)
        pairs = dict(OPPOSITES)
        pairs.update({other: kind for kind, other in OPPOSITES.items()})
        for _ in range(3):
            for claim, _ in answers(source):
                found = opposite(claim)
                if claim[0] == "finite":
                    self.assertEqual(found, ("endless",) + claim[1:4])
                elif found is None:
                    told_other = (pairs.get(claim[0]),) + claim[1:]
                    self.assertTrue(claim[0] not in pairs or not is_made(told_other))
                else:
                    self.assertEqual(found, (pairs[claim[0]],) + claim[1:])
        self.assertIsNone(opposite(("endless", 0, 2, ())))
        self.assertEqual(opposite(("finite", 0, 2, (), 7)), ("endless", 0, 2, ()))
        # An opposite claim that would be none.
        self.assertIsNone(opposite(("parted", 5, (1, 0, 2))))
        self.assertEqual(opposite(("parted", 5, (2, 0, 1))), ("unsplit", 5, (2, 0, 1)))
        self.assertIsNone(opposite(("unsplit", 5, (2, 1))))
        self.assertIsNone(opposite(("greatest", ((ONE,),), (ONE,), (ONE,), ONE)))
        self.assertIsNone(opposite(("no greatest", ((ONE,),), (ONE,), (ONE,))))

    def test_opposite_shares_nothing(self):
        form = {(1, 0): ONE, (0, 1): TWO}
        claim = ("within", 0, 2, form, (form,))
        found = opposite(claim)
        self.assertEqual(list(found[3]), [(0, 1), (1, 0)])
        found[3].clear()
        self.assertEqual(claim, ("within", 0, 2, {(0, 1): TWO, (1, 0): ONE}, ({(0, 1): TWO, (1, 0): ONE},)))

    def test_exponents_have_a_bound(self):
        # [0.15]
        for most, is_right in ((10 ** 4, True), (10 ** 4 + 1, False), (BIG, False)):
            form = {(most,): ONE}
            self.assertIs(is_claim(("within", 0, 1, form, (form,))), is_right)
            self.assertIs(takes(("within", 0, 1, form, (form,)), ({(0,): ONE},)), is_right)
            self.assertIs(takes(("within", 0, 1, {}, ({},)), (form,)), is_right)
            self.assertIs(takes(("no point", 0, 1, (), ({},)), (most, ())), is_right)
            self.assertIs(is_claim(("happens", 1, ("is", form))), is_right)
        self.assertTrue(takes(("no point", 0, 1, ({(1,): ONE},), ({(1,): ONE},)), (10 ** 4, ({(9999,): ONE},))))
        self.assertFalse(takes(("no point", 0, 1, ({(1,): ONE},), ({(1,): ONE},)), (10 ** 4, ({(9998,): ONE},))))

    def test_the_k_of_unsplit_has_a_bound(self):
        # t * t + 1 is unsplit modulo 3, so it is one lift, whatever the power is.
        shown = unsplit_answer(3, (1, 0, 1))[1]
        for k, is_right in ((1, False), (2, False), (3, True), (10 ** 4, True), (10 ** 4 + 1, False), (True, False)):
            self.assertIs(takes(("unsplit", 0, (ONE, ZERO, ONE)), (3, k, ((1, 0, 1),), (shown,))), is_right, k)


class FarBeyond(Case):
    """Claims with degrees, sizes and integers far beyond the bounds of what functions take."""

    def test_long_integers(self):
        long = 10 ** 700 + 1
        self.assertTrue(takes(("divisor", 6 * long, 4 * long, 2 * long), (1, -1, 3, 2)))
        self.assertFalse(takes(("divisor", 6 * long, 4 * long, 2 * long), (1, -1, 3, 3)))
        self.assertTrue(takes(("rests", ((long, 5), (7, 5))), 7 * long + 5))
        self.assertTrue(takes(("split", long * (long + 2)), (long, long + 2)))
        self.assertTrue(takes(("solved", 0, (((long, 1),),), (ONE,)), ((1, long),)))
        self.assertTrue(takes(("whole", ((long,),), (3 * long,)), (3,)))
        self.assertTrue(takes(("never whole", ((2 * long,),), (long,)), ((1, 2 * long),)))
        self.assertTrue(takes(("reached", (((long, 1),),), ((long, 1),)), (ONE,)))
        self.assertTrue(takes(("roots", ((-long, 1), ONE), None, (long, 1), 1),
                              ((ONE,), (((-long, 1), ONE), (ONE,)), ())))

    def test_great_degrees_and_sizes(self):
        f = made(5, [1] + [0] * 99 + [1])
        self.assertTrue(takes(("common", 5, f, (), f), ((1,), (), (1,), ())))
        g = made(5, [2, 1])
        self.assertTrue(takes(("parted", 5, poly_times(5, f, g)), (f, g)))
        self.assertTrue(takes(("mixed", 0, (ONE,), (), ((1, 3),) * 50), (((1, 3),) * 50, ())))
        row = made(5, [0] * 40 + [1])
        self.assertTrue(takes(("parts", 5, row, (((0, 1), 40),)), ((),)))
        table = tuple(tuple(ONE if i == j else ZERO for j in range(20)) for i in range(20))
        self.assertTrue(takes(("solved", 0, table, (TWO,) * 20), (TWO,) * 20))
        self.assertTrue(takes(("rank", 0, table, 20), (tuple(range(20)), tuple(range(20)), table, table)))
        self.assertFalse(takes(("rank", 0, table, 19), (tuple(range(20)), tuple(range(20)), table, table)))
        whole = tuple(tuple(2 * (i == j) for j in range(9)) for i in range(9))
        self.assertTrue(takes(("whole", whole, (4,) * 9), (2,) * 9))
        self.assertTrue(is_claim(("stairs", whole, whole)))
        self.assertFalse(is_claim(("steps", whole, (2,) * 9)))
        self.assertTrue(takes(("rests", tuple((k, 1) for k in range(1, 30))), 1))

    def test_many_forms_of_great_degrees_in_four_letters(self):
        term = {(700, 800, 900, 1000): ONE}
        gens = tuple({(k, 0, 0, 0): ONE} for k in range(1, 20))
        self.assertTrue(takes(("within", 0, 4, term, gens), ({(699, 800, 900, 1000): ONE},) + ({},) * 18))
        self.assertFalse(takes(("within", 0, 4, term, gens), ({},) + ({(699, 800, 900, 1000): ONE},) + ({},) * 17))
        self.assertTrue(is_claim(("endless", 0, 4, gens)))
        self.assertFalse(is_claim(("endless", 0, 5, ())))
        zeros = ({(300, 0, 0, 0): ONE, (0, 0, 0, 0): LESS},)
        self.assertTrue(takes(("point", 0, 4, zeros, ()), ((ZERO, ONE), ((ONE,), (), (), ()), ())))
        deep = ("is", {(1,): ONE})
        for _ in range(30):
            deep = ("not", ("and", deep))
        self.assertTrue(is_claim(("happens", 1, deep)))
        self.assertTrue(takes(("happens", 1, deep), (0, (ZERO, ONE), ((),), ())))

    def test_great_numbers_of_standing_products(self):
        rows = tuple({tuple(10 ** 4 if at == index else 0 for at in range(4)): ONE} for index in reversed(range(4)))
        one, none = {(0, 0, 0, 0): ONE}, {}
        unit = tuple(tuple(one if i == j else none for j in range(4)) for i in range(4))
        # For two pure powers each one, times the other, takes off the crossed pair: it is {} here.
        paper = ("deg", rows, (unit, unit, ((none,) * 4,) * 6))
        self.assertTrue(takes(("finite", 0, 4, rows, 10 ** 16), paper))
        self.assertFalse(takes(("finite", 0, 4, rows, 10 ** 16 - 1), paper))

    def test_wishes_with_endlessly_many_cases(self):
        wish = ("and",) + (("or",) + (("is", {(1,): ONE}), ("is", {(0,): ONE})),) * 60
        self.assertTrue(is_claim(("happens", 1, wish)) and is_claim(("never", 1, wish)))
        self.assertTrue(takes(("happens", 1, wish), (0, (ZERO, ONE), ((),), ())))
        # The case of the first member changes last.
        self.assertFalse(takes(("happens", 1, wish), (1, (ZERO, ONE), ((),), ())))
        self.assertFalse(takes(("never", 1, wish), ()))

    def test_powers_with_a_limit(self):
        # [14.4]: over the fractions the limit is for the product, over a prime ground for its power.
        for most, is_right in ((313, True), (314, False)):
            others = ({(0, 0): ONE, (317, 0): ONE}, {(0, 0): ONE, (0, most): ONE})
            zeros = (times(0, *others),)
            self.assertIs(takes(("no point", 0, 2, zeros, others), (1, ({(0, 0): ONE},))), is_right)
            self.assertTrue(takes(("no point", 0, 2, ({(0, 0): ONE},), others), (0, ({(0, 0): ONE},))))
        for ground in (0, 5):
            one = ONE if ground == 0 else 1
            others = ({(0, 0): one, (100, 0): one}, {(0, 0): one, (0, 100): one})
            product = times(ground, *others)
            for many, is_right in ((1, True), (3, True), (4, ground == 0)):
                paper = (many, (form_power(ground, 2, product, many - 1),))
                self.assertIs(takes(("no point", ground, 2, (product,), others), paper), is_right)

    def test_random_forms(self):
        source = random.Random(3)
        for ground in (0, 2, 9973):
            for _ in range(20):
                gens = tuple(random_form(source, ground, 4, 6, 4, 9) for _ in range(8))
                multiples = tuple(random_form(source, ground, 4, 6, 4, 9) for _ in range(8))
                whole = {}
                for one, other in zip(gens, multiples):
                    for key, number in times(ground, one, other).items():
                        whole = plus(ground, whole, {key: number})
                self.assertTrue(takes(("within", ground, 4, whole, gens), multiples))
                claim, others = ("within", ground, 4, whole, gens), multiples[1:] + multiples[:1]
                self.assertIs(takes(claim, others), is_paper(claim, others))

    def test_all_kinds_are_judged_in_the_tests(self):
        self.assertEqual({LIKE.get(kind, kind) for kind in kinds()}, set(MADE))
