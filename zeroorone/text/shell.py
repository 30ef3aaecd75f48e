"""A shell: lines that ask questions, and put the answers to a book (stage 20)."""
from zeroorone.base.numbers import divisor_answer
from zeroorone.book.book import Book
from zeroorone.book.steps import following, name_fits, step_fits
from zeroorone.errors import InvalidName, InvalidNumber, InvalidOperation, NothingToUndo, PaperError, ParseError
from zeroorone.errors import Refused, TooMany, UnknownName
from zeroorone.letter.chains import roots_answer
from zeroorone.letter.lifted import fraction_parts_answer
from zeroorone.letter.modparts import parts_answer
from zeroorone.letter.rests import common_answer
from zeroorone.many.bases import basis_answer
from zeroorone.many.within import lots_answer, within_answer
from zeroorone.paper.numbers import is_int
from zeroorone.points.counts import complex_answer, real_answer
from zeroorone.points.points import point_answer
from zeroorone.points.stairs import finite_answer
from zeroorone.primes.primes import prime_answer, prime_parts_answer
from zeroorone.text.texts import read_form, read_poly, read_value, value_text

MOST_LETTERS = 4000
MOST_LINES = 100
# How many words behind its first one each question has.
QUESTIONS = {
    "prime": 1, "factors": 1, "divisor": 2, "common": 3, "parts": 2, "roots": 1, "basis": 4, "within": 4, "lots": 4,
    "finite": 3, "point": 3, "complex": 2, "real": 2,
}
# The same for each line that is no question.
DEEDS = {"sum": 3, "strike": 1, "undo": 0, "redo": 0, "show": 1, "why": 1, "names": 0, "audit": 0}


def integer_in(word):
    """The integer with these digits, perhaps below 0."""
    number = read_value(word)
    if not is_int(number):
        raise ParseError(None)
    return number


def number_in(word):
    """The integer from 0 on with these digits."""
    number = integer_in(word)
    if number < 0:
        raise ParseError(None)
    return number


def forms_in(ground, size, word):
    """The forms whose texts stand in a word."""
    if word == "-":
        return ()
    return tuple([read_form(ground, size, text) for text in word.split(",")])


def integer_question(kind, words):
    """The answer to a question about integers."""
    if kind == "divisor":
        return divisor_answer(integer_in(words[0]), integer_in(words[1]))
    number = number_in(words[0])
    return prime_answer(number) if kind == "prime" else prime_parts_answer(number)


def poly_question(kind, words):
    """The answer to a question about polys."""
    if kind == "roots":
        return roots_answer(read_poly(0, words[0]), None, None)
    ground = number_in(words[0])
    poly = read_poly(ground, words[1])
    if kind == "common":
        return common_answer(ground, poly, read_poly(ground, words[2]))
    return fraction_parts_answer(poly) if ground == 0 else parts_answer(ground, poly)


def fraction_question(kind, words):
    """The answer to a question about forms over the fractions."""
    size = number_in(words[0])
    forms = forms_in(0, size, words[1])
    if kind == "point":
        return point_answer(size, forms, forms_in(0, size, words[2]))
    return complex_answer(size, forms) if kind == "complex" else real_answer(size, forms)


def form_question(kind, words):
    """The answer to a question about forms over a ground."""
    ground, size = number_in(words[0]), number_in(words[1])
    forms = forms_in(ground, size, words[-1])
    if kind == "basis":
        return basis_answer(ground, size, words[2], forms)
    if kind == "within":
        return within_answer(ground, size, read_form(ground, size, words[2]), forms)
    if kind == "lots":
        return lots_answer(ground, size, forms_in(ground, size, words[2]), forms)
    return finite_answer(ground, size, forms)


def answer_to(words):
    """The claim and the paper that answer a question."""
    if len(words) == 0 or words[0] not in QUESTIONS or len(words) != QUESTIONS[words[0]] + 1:
        raise ParseError(None)
    kind, rest = words[0], words[1:]
    if kind in ("prime", "factors", "divisor"):
        return integer_question(kind, rest)
    if kind in ("common", "parts", "roots"):
        return poly_question(kind, rest)
    if kind in ("point", "complex", "real"):
        return fraction_question(kind, rest)
    return form_question(kind, rest)


def is_line(value):
    """Whether the value is a string that can be said."""
    return isinstance(value, str) and len(value) <= MOST_LETTERS


class Shell:
    """A book, and what lines do to it."""

    def __init__(self):
        self.held = Book()

    def say(self, line):
        """Do what a line says, and return a text."""
        if not is_line(line):
            raise InvalidOperation("no line")
        try:
            return self.done(line.split(" "))
        except Refused as refusal:
            return "refused " + value_text(refusal.reason)
        except TooMany as excess:
            return "too many " + value_text(excess.limit)
        except UnknownName as missing:
            return "unknown " + missing.name
        except NothingToUndo:
            return "nothing"
        except (PaperError, InvalidNumber):
            return "wrong"

    def run(self, lines):
        """What is returned for each of some lines."""
        if not isinstance(lines, tuple) or len(lines) > MOST_LINES or not all([is_line(line) for line in lines]):
            raise InvalidOperation("no tuple of at most a hundred lines")
        return tuple([self.say(line) for line in lines])

    def book(self):
        """An independent copy of the book."""
        return self.held.twin()

    def done(self, words):
        """Do what the words of a line say, and return a text."""
        if "" in words:
            raise ParseError(None)
        if words[0] == "ask":
            return value_text(answer_to(words[1:])[0])
        if words[0] == "put" and len(words) > 1:
            claim, paper = answer_to(words[2:])
            self.held.state(words[1], claim, paper)
            return value_text(claim)
        if words[0] not in DEEDS or len(words) != DEEDS[words[0]] + 1:
            raise ParseError(None)
        if words[0] == "sum":
            return self.lean_sum(words[1], words[2], words[3])
        return self.deed(words[0], words[1:])

    def lean_sum(self, name, one, other):
        """Lean a line on two others by the step "sum", and return the text of its claim."""
        if not name_fits(name) or name in self.held:
            raise InvalidName("no free name")
        reason = ("sum", one, other)
        if not step_fits(reason):
            raise InvalidOperation("no step")
        claim = following(reason, [self.held.claim(one), self.held.claim(other)])
        if claim is None:
            raise InvalidOperation("nothing follows")
        self.held.lean(name, claim, reason)
        return value_text(claim)

    def deed(self, word, names):
        """Do what a word with at most one name says, and return a text."""
        if word == "strike":
            return " ".join(self.held.strike(names[0]))
        if word == "undo":
            return value_text(self.held.undo())
        if word == "redo":
            return value_text(self.held.redo())
        if word == "show":
            return value_text(self.held.claim(names[0]))
        if word == "why":
            return value_text(self.held.reason(names[0]))
        if word == "names":
            return " ".join(self.held.names)
        found = self.held.audit()
        return "none" if found is None else found

    def __str__(self):
        return f"shell with {len(self.held)} lines"
