"""Books: lines of claims with papers, or with steps from earlier lines (stage 19)."""
from zeroorone.base.plain import check_integer
from zeroorone.book.steps import first_unfit, follows_from, name_fits, names_in, renamed, step_fits
from zeroorone.errors import InvalidClaim, InvalidName, InvalidNumber, InvalidOperation, NothingToUndo, Refused, TooMany
from zeroorone.errors import UnknownName
from zeroorone.paper.checker import is_claim, takes
from zeroorone.paper.values import copied

MAX_LINES = 60
MAX_NAME = 8


def follows(claim, reason, known):
    """Whether the claim follows by the reason, a step, from the claims that are known for names."""
    if not isinstance(known, dict) or not all([name_fits(name) and is_claim(known[name]) for name in known]):
        raise InvalidClaim("no dict from names to claims")
    return is_claim(claim) and step_fits(reason) and follows_from(claim, reason, known)


def stands(claim, reason, known):
    """Whether a line with this claim and reason stands behind lines with these claims for names."""
    if reason[0] == "paper":
        return takes(claim, reason[1])
    return follows_from(claim, reason, known)


def check_many(many):
    """Refuse what is no integer from 0 on."""
    check_integer(many)
    if many < 0:
        raise InvalidNumber(many)


def count_steps(lines):
    """How many lines have steps."""
    return len([line for line in lines if line[2][0] != "paper"])


class Book:
    """A row of lines (name, claim, reason), with what can be taken back and done again."""

    def __init__(self):
        self.lines = ()
        self.past = []
        self.future = []

    @classmethod
    def told(cls, rows):
        """The book with the lines of a row, which need not stand."""
        if not isinstance(rows, tuple) or first_unfit(rows, MAX_LINES) is not None:
            raise InvalidClaim("no row of lines")
        book = cls()
        book.lines = copied(rows)
        return book

    def change_to(self, lines):
        """Go on with other lines."""
        self.past = self.past + [self.lines]
        self.future = []
        self.lines = lines

    def check_new(self, name, claim):
        """Refuse a name that is none or not free, and then what is no claim."""
        if not name_fits(name) or name in self:
            raise InvalidName("no free name of one to eight letters")
        if not is_claim(claim):
            raise InvalidClaim("no well made claim")

    def check_room(self, many):
        """Refuse so many further lines if they would be too many."""
        if len(self.lines) + many > MAX_LINES:
            raise TooMany(MAX_LINES)

    def line_of(self, name):
        """The line with this name."""
        for line in self.lines:
            if isinstance(name, str) and line[0] == name:
                return line
        raise UnknownName(name)

    def put_line(self, name, claim, reason):
        """Put a further line, of copies."""
        self.check_room(1)
        self.change_to(self.lines + ((name, copied(claim), copied(reason)),))
        return (name,)

    def state(self, name, claim, paper):
        """Put a further line with a paper."""
        self.check_new(name, claim)
        if not takes(claim, paper):
            raise Refused(("paper",))
        return self.put_line(name, claim, ("paper", paper))

    def lean(self, name, claim, reason):
        """Put a further line with a step."""
        self.check_new(name, claim)
        if not step_fits(reason):
            raise InvalidOperation("no step")
        known = {line[0]: line[1] for line in self.lines}
        for wanted in names_in(reason):
            if wanted not in known:
                raise UnknownName(wanted)
        if not follows_from(claim, reason, known):
            raise Refused(("step",))
        return self.put_line(name, claim, reason)

    def strike(self, name):
        """Take out the line with this name, and all that lean on it."""
        self.line_of(name)
        gone = {name: True}
        for line in self.lines:
            if any([wanted in gone for wanted in names_in(line[2])]):
                gone[line[0]] = True
        names = tuple([line[0] for line in self.lines if line[0] in gone])
        self.change_to(tuple([line for line in self.lines if line[0] not in gone]))
        return names

    def rename(self, names):
        """Give all lines other names, by a dict."""
        if not isinstance(names, dict) or len(names) != len(self.lines) or not all([name in self for name in names]):
            raise InvalidOperation("no dict from just the names of the book")
        found = [names[line[0]] for line in self.lines]
        if not all([name_fits(name) for name in found]) or len(set(found)) != len(found):
            raise InvalidOperation("no unlike names")
        self.change_to(tuple([(names[name], claim, renamed(reason, names)) for name, claim, reason in self.lines]))
        return tuple(found)

    def join(self, other):
        """Put the lines of another book behind the own ones."""
        if not isinstance(other, Book):
            raise InvalidOperation("no book")
        names = tuple([line[0] for line in other.lines])
        for name in names:
            if name in self:
                raise Refused(("name", name))
        self.check_room(len(names))
        self.change_to(self.lines + other.lines)
        return names

    def undo(self, *, many=1):
        """Take back so many changes; the number of lines then."""
        check_many(many)
        if many > len(self.past):
            raise NothingToUndo(many)
        for _ in range(many):
            self.future.append(self.lines)
            self.lines = self.past.pop()
        return len(self.lines)

    def redo(self, *, many=1):
        """Do so many changes again; the number of lines then."""
        check_many(many)
        if many > len(self.future):
            raise NothingToUndo(many)
        for _ in range(many):
            self.past.append(self.lines)
            self.lines = self.future.pop()
        return len(self.lines)

    def twin(self):
        """An independent copy with all changes."""
        book = Book()
        book.lines = self.lines
        book.past = list(self.past)
        book.future = list(self.future)
        return book

    def rows(self):
        """All lines."""
        return copied(self.lines)

    def audit(self):
        """The name of the first line that does not stand, None if all do."""
        known = {}
        for name, claim, reason in self.lines:
            if not stands(claim, reason, known):
                return name
            known[name] = claim
        return None

    def claim(self, name):
        """The claim of the line with this name."""
        return copied(self.line_of(name)[1])

    def reason(self, name):
        """The reason of the line with this name."""
        return copied(self.line_of(name)[2])

    def leans(self, name):
        """The names of all lines on which the line with this name leans."""
        wanted = {other: True for other in names_in(self.line_of(name)[2])}
        found = []
        for line in reversed(self.lines):
            if line[0] in wanted:
                found.append(line[0])
                wanted.update({other: True for other in names_in(line[2])})
        return tuple(reversed(found))

    def least(self, name):
        """A new book of the line with this name, and of all on which it leans."""
        kept = self.leans(name) + (name,)
        book = Book()
        book.lines = tuple([line for line in self.lines if line[0] in kept])
        return book

    @property
    def names(self):
        """The names of all lines."""
        return tuple([line[0] for line in self.lines])

    @property
    def changes(self):
        """How many changes can be taken back."""
        return len(self.past)

    def __contains__(self, value):
        return isinstance(value, str) and value in [line[0] for line in self.lines]

    def __len__(self):
        return len(self.lines)

    def __eq__(self, other):
        return isinstance(other, Book) and self.lines == other.lines

    def __str__(self):
        return f"book of {len(self.lines)} lines, {count_steps(self.lines)} by steps"
