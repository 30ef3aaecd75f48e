"""Stage 20: the shell."""
import random

from helping import LESS, ODD, ONE, ZERO, Case, told

from zeroorone import errors
from zeroorone.base.numbers import divisor_answer
from zeroorone.book.book import Book
from zeroorone.letter.chains import roots_answer
from zeroorone.letter.lifted import fraction_parts_answer
from zeroorone.letter.modparts import parts_answer
from zeroorone.letter.rests import common_answer
from zeroorone.many.bases import basis_answer
from zeroorone.many.within import lots_answer, within_answer
from zeroorone.points.counts import complex_answer, real_answer
from zeroorone.points.points import point_answer
from zeroorone.points.stairs import finite_answer
from zeroorone.primes.primes import prime_answer, prime_parts_answer
from zeroorone.text.shell import Shell
from zeroorone.text.texts import book_text, read_book, value_text

A, B = {(1, 0): ONE}, {(0, 1): ONE}
LINE = {(1, 0): ONE, (0, 1): LESS}
CIRCLE = {(2, 0): ONE, (0, 2): ONE, (0, 0): LESS}
ROOT = ((-2, 1), ZERO, ONE)

QUESTIONS = [
    ("prime 91", prime_answer, (91,)), ("prime 2", prime_answer, (2,)), ("prime 9973", prime_answer, (9973,)),
    ("factors 360", prime_parts_answer, (360,)), ("factors 1", prime_parts_answer, (1,)),
    ("divisor 12 -18", divisor_answer, (12, -18)), ("divisor 0 0", divisor_answer, (0, 0)),
    ("divisor -7 21", divisor_answer, (-7, 21)),
    ("common 0 x^2-1 x-1", common_answer, (0, (LESS, ZERO, ONE), (LESS, ONE))),
    ("common 5 x^2+4 0", common_answer, (5, (4, 0, 1), ())), ("parts 0 x^2-2", fraction_parts_answer, (ROOT,)),
    ("parts 0 1/2*x^2-1/2", fraction_parts_answer, (((-1, 2), ZERO, (1, 2)),)), ("parts 7 x^2+5", parts_answer, (7, (5, 0, 1))),
    ("roots x^2-2", roots_answer, (ROOT, None, None)), ("roots -5", roots_answer, (((-5, 1),), None, None)),
    ("basis 0 2 lex a^2+b^2-1,a-b", basis_answer, (0, 2, "lex", (CIRCLE, LINE))),
    ("basis 5 1 deg -", basis_answer, (5, 1, "deg", ())), ("basis 2 1 deg 0,a+1", basis_answer, (2, 1, "deg", (
        {}, {(1,): 1, (0,): 1}))),
    ("within 0 2 a^2-b^2 a-b", within_answer, (0, 2, {(2, 0): ONE, (0, 2): LESS}, (LINE,))),
    ("within 0 2 a a-b,b^2", within_answer, (0, 2, A, (LINE, {(0, 2): ONE}))), ("within 5 1 3*a -", within_answer, (5, 1, {(1,): 3}, ())),
    ("lots 0 2 a,b b,a", lots_answer, (0, 2, (A, B), (B, A))), ("lots 0 2 a -", lots_answer, (0, 2, (A,), ())),
    ("lots 0 3 - -", lots_answer, (0, 3, (), ())), ("finite 0 2 a,b^2", finite_answer, (0, 2, (A, {(0, 2): ONE}))),
    ("finite 5 2 a", finite_answer, (5, 2, ({(1, 0): 1},))), ("point 2 a-b a", point_answer, (2, (LINE,), (A,))),
    ("point 2 a a", point_answer, (2, (A,), (A,))), ("point 1 - -", point_answer, (1, (), ())),
    ("complex 2 a^2+b^2-1,a-b", complex_answer, (2, (CIRCLE, LINE))), ("real 1 a^2-2", real_answer, (1, ({(2,): ONE, (0,): told(0, -2)},))),
]
WRONG = [
    "", " ", "ask", "put", "put x", "ask ", "ask  prime 91", " ask prime 91", "ask prime 91 ", "ask prime", "ask prime 91 7",
    "ask primes 91", "Ask prime 91", "ASK PRIME 91", "prime 91", "ask prime x", "ask prime -7", "ask prime 007", "ask prime 1",
    "ask prime 7.0", "ask prime +7", "ask prime 100000001", "ask prime (7)", 'ask prime "a"', "ask prime yes", "ask prime none",
    "ask factors 0", "ask factors -4", "ask divisor 12", "ask divisor 12 x", "ask divisor 12 --18", "ask divisor 12 -0",
    "ask divisor 1 " + "9" * 61, "ask common 4 x x", "ask common 0 x", "ask common 0 x X", "ask common 5 x -x", "ask parts x x",
    "ask parts 0 0", "ask parts 0 x^13", "ask parts 0 a", "ask roots 0", "ask roots x x", "ask roots x^2 - 2", "ask roots",
    "ask basis 0 2 lex a+b,", "ask basis 0 2 lex ,a", "ask basis 0 2 lex a,,b", "ask basis 0 4 lex a", "ask basis 0 0 lex -",
    "ask basis 0 2 lex", "ask basis 0 2 lex a b", "ask basis 0 2 lex --", "ask basis 0 2 lex a,-", "ask basis 4 2 lex -",
    "ask basis 0 2 lex a,a,a,a,a,a,a", "ask within 0 2 - a", "ask within 0 2 a", "ask within 0 2 a,b a", "ask within 0 1 b a",
    "ask lots 0 2 a", "ask lots 0 2 a c", "ask finite 0 2", "ask finite 10007 2 a", "ask point 2 a", "ask point 2 a^5 -",
    "ask point 2 - a,a,a,a", "ask point 4 - -", "ask complex 2", "ask real 2 c", "ask real x a", "names x", "audit x", "undo 1",
    "redo 1", "strike", "strike a b", "show", "show a b", "why", "sum a b", "sum a b c d", "names ", "audit  ", "sum x one  one",
    "help", "put one", "put one ask prime 7", "put One prime 7", "put toolongname prime 7", "put a1 prime 7", "put - prime 7",
    "sum X a a", "sum x A a", "sum x a 1", "sum toolongname a a", "ask\tprime 7", "ask prime 7\n", "\n",
]


class Examples(Case):
    def test_examples(self):
        shell = Shell()
        self.assertEqual(
            shell.run(("put one within 0 2 a^2-b^2 a-b", "sum two one one", "strike one", "undo", "names", "audit"))[1:],
            ('("within" 0 2 {(0 2):(-2 1) (2 0):(2 1)} ({(0 1):(-1 1) (1 0):(1 1)}))', "one two", "2", "one two", "none"))
        self.assertEqual([shell.say("ask prime 91"), shell.say("show three"), shell.say("put one prime 7"),
                          shell.say("ask real 2 a-b"), book_text(Shell().book())],
                         ['("split" 91)', "unknown three", "wrong", 'refused ("endless")', ""])


class Lines(Case):
    def test_each_question(self):
        shell = Shell()
        for at, (question, call, args) in enumerate(QUESTIONS):
            claim, paper = call(*args)
            self.assertEqual(shell.say("ask " + question), value_text(claim), question)
            self.assertEqual(len(shell.book()), at)
            name = "n" + "abcdefghij"[at // 10] + "abcdefghij"[at % 10]
            self.assertEqual(shell.say(f"put {name} {question}"), value_text(claim))
            self.assertEqual(shell.book().claim(name), claim)
            self.assertEqual((shell.say("show " + name), shell.say("why " + name)),
                             (value_text(claim), value_text(("paper", paper))))
            self.assertEqual(shell.say("audit"), "none")
        self.assertEqual(str(shell), f"shell with {len(QUESTIONS)} lines")

    def test_wrong_lines(self):
        shell = Shell()
        shell.say("put a within 0 1 a a")
        for line in WRONG:
            before = shell.book()
            self.assertEqual(shell.say(line), "wrong", line)
            self.assertTrue(shell.book() == before and shell.book().changes == 1)

    def test_refusals(self):
        shell = Shell()
        for line, text in (
            ("undo", "nothing"), ("redo", "nothing"), ("strike one", "unknown one"), ("show One", "unknown One"),
            ("why a1", "unknown a1"), ("sum a b c", "unknown b"), ("ask real 1 -", 'refused ("endless")'),
            ("ask complex 2 a", 'refused ("endless")'), ("put x real 2 a-b", 'refused ("endless")'),
            ("ask basis 0 2 up a", "unknown up"), ("put x basis 0 2 lexx a", "unknown lexx"), ("names", ""), ("audit", "none"),
        ):
            self.assertEqual(shell.say(line), text, line)
            self.assertEqual((len(shell.book()), shell.book().changes), (0, 0))

    def test_sum(self):
        shell = Shell()
        shell.run(("put a within 0 1 a a", "put b within 0 1 a^2 a", "put c within 0 1 a^2 a^2", "put d prime 7",
                   "put e within 5 1 a a", "put f within 0 1 a^3 -"))
        self.assertEqual(shell.say("sum x a b"), '("within" 0 1 {(1):(1 1) (2):(1 1)} ({(1):(1 1)}))')
        self.assertEqual((shell.say("why x"), shell.say("names")), ('("sum" "a" "b")', "a b c d e f x"))
        # Steps by which nothing follows.
        for line, text in (("sum y a c", "wrong"), ("sum y a d", "wrong"), ("sum y d d", "wrong"), ("sum y a e", "wrong"),
                           ("sum y f f", "wrong"), ("sum a a a", "wrong"), ("sum y no a", "unknown no"),
                           ("sum y a no", "unknown no"), ("sum y no none", "unknown no"), ("sum a no a", "wrong"),
                           ("sum y y a", "unknown y")):
            self.assertEqual(shell.say(line), text, line)
            self.assertEqual(len(shell.book()), 7)
        self.assertEqual(shell.say("sum y x x"), '("within" 0 1 {(1):(2 1) (2):(2 1)} ({(1):(1 1)}))')
        self.assertEqual(shell.run(("strike x", "undo", "undo", "redo", "strike y", "names", "audit")),
                         ("x y", "8", "7", "8", "y", "a b c d e f x", "none"))

    def test_too_many(self):
        shell = Shell()
        names = [x + y for x in "abcdefgh" for y in "abcdefgh"]
        shell.say("put aa within 0 1 a a")
        for name in names[1:60]:
            self.assertEqual(shell.say(f"put {name} prime 2"), '("prime" 2)')
        self.assertEqual((shell.say("put zz prime 2"), shell.say("sum zz aa aa")), ("too many 60", "too many 60"))
        self.assertEqual((shell.say("put aa prime 2"), shell.say("sum zz aa ab"), len(shell.book())), ("wrong", "wrong", 60))
        self.assertEqual(shell.say("audit"), "none")

    def test_undo_and_redo(self):
        shell = Shell()
        self.assertEqual(shell.run(("put a prime 7", "put b prime 11", "strike a", "undo", "undo", "undo", "undo", "redo", "redo",
                                    "names", "redo", "redo", "names"))[2:],
                         ("a", "2", "1", "0", "nothing", "1", "2", "a b", "1", "nothing", "b"))

    def test_the_audit_behind_each_line(self):
        source = random.Random(1)
        lines = ["put {} " + question for question, _, _ in QUESTIONS] + WRONG[:40] + ["undo", "redo", "names"] * 8
        lines += ["sum {} {} {}"] * 12 + ["strike {}"] * 6
        shell = Shell()
        for _ in range(150):
            line = source.choice(lines)
            while "{}" in line:
                line = line.replace("{}", source.choice(("a", "b", "c", "d", "e")), 1)
            before = book_text(shell.book())
            text = shell.say(line)
            self.assertEqual(shell.say("audit"), "none")
            if text.split(" ")[0] in ("wrong", "refused", "unknown", "nothing", "too"):
                self.assertEqual(book_text(shell.book()), before)
            self.assertTrue(read_book(book_text(shell.book())) == shell.book())


class Shells(Case):
    def test_what_is_no_line(self):
        shell = Shell()
        self.assertEqual(shell.say("a" * 4000), "wrong")
        for wrong in [value for value in ODD if not isinstance(value, str)] + ["a" * 4001, b"names", ["names"], ("names",)]:
            self.refuses(errors.InvalidOperation, shell.say, wrong)
            self.refuses(errors.InvalidOperation, shell.run, ("put a prime 7", wrong))
        self.assertEqual(len(shell.book()), 0)

    def test_run(self):
        shell = Shell()
        self.assertEqual(shell.run(()), ())
        self.assertEqual(shell.run(("names",) * 100), ("",) * 100)
        for wrong in ODD + [["names"], ("names",) * 101, "names", ("put a prime 7",) * 101, ("put a prime 7", None)]:
            if wrong != ():
                self.refuses(errors.InvalidOperation, shell.run, wrong)
        self.assertEqual(len(shell.book()), 0)

    def test_book(self):
        shell = Shell()
        self.assertTrue(shell.book() == Book())
        shell.say("put a prime 7")
        book = shell.book()
        self.assertEqual((book.names, book.changes), (("a",), 1))
        book.strike("a")
        self.assertEqual((len(shell.book()), shell.say("names")), (1, "a"))
        shell.say("put b prime 11")
        self.assertEqual(len(book), 0)

    def test_str(self):
        shell = Shell()
        self.assertEqual(str(shell), "shell with 0 lines")
        shell.say("put a prime 7")
        self.assertEqual(str(shell), "shell with 1 lines")
        for value in ODD:
            self.assertFalse(shell == value)
