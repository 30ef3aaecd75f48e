"""Steps from claims to claims, names, and what lines a book can have, without checks (stage 19)."""
from zeroorone.letter.inner import product_poly
from zeroorone.paper.bases import MOST_SIZE, form_is_told
from zeroorone.paper.checker import is_claim
from zeroorone.paper.every import bottoms_of_claim
from zeroorone.paper.forms import Frame, form_fits, product_of, sum_of
from zeroorone.paper.numbers import LAST_GROUND, is_row, prime_fits
from zeroorone.primes.every import led

LONGEST_NAME = 8
# The greatest ground, which lets all numbers that any other prime one lets.
LAST_PRIME = 9973
# The kinds of steps, and how many names each one has.
NAMED = {"sum": 2, "times": 1, "through": 2, "turned": 1, "chain": 2, "beside": 2, "parts": 2, "at": 1}


def name_fits(value):
    """Whether the value is a name."""
    if not isinstance(value, str) or len(value) < 1 or len(value) > LONGEST_NAME:
        return False
    return all(["a" <= letter <= "z" for letter in value])


def is_some_form(value):
    """Whether the value is a form of some ground and of a size from 1 to 4."""
    if not isinstance(value, dict):
        return False
    for size in range(1, MOST_SIZE + 1):
        if form_fits(0, size, value, None, None) or form_fits(LAST_PRIME, size, value, None, None):
            return True
    return False


def step_fits(value):
    """Whether the value is a step."""
    if not isinstance(value, tuple) or len(value) < 2 or not isinstance(value[0], str) or value[0] not in NAMED:
        return False
    many = NAMED[value[0]]
    has_more = value[0] in ("times", "at")
    if len(value) != many + 1 + (1 if has_more else 0) or not all([name_fits(name) for name in value[1:many + 1]]):
        return False
    if value[0] == "times":
        return is_some_form(value[2])
    return value[0] != "at" or prime_fits(value[2], LAST_GROUND)


def names_in(reason):
    """The names in a reason, as they stand there."""
    if reason[0] == "paper":
        return ()
    return reason[1:NAMED[reason[0]] + 1]


def renamed(reason, names):
    """The reason with other names, by a dict."""
    if reason[0] == "paper":
        return reason
    many = NAMED[reason[0]]
    return reason[:1] + tuple([names[name] for name in reason[1:many + 1]]) + reason[many + 1:]


def summed(one, other):
    """What follows by "sum"; None if nothing does."""
    if one[0] != "within" or other[0] != "within" or one[1:3] != other[1:3] or one[4] != other[4]:
        return None
    frame = Frame(one[1], one[2], "lex")
    made = sum_of(frame, frame.opened(one[3]), frame.opened(other[3]))
    return one[:3] + (frame.closed(made),) + one[4:]


def multiplied(claim, form):
    """What follows by "times"; None if nothing does."""
    if claim[0] != "within" or not form_fits(claim[1], claim[2], form, None, None):
        return None
    made = {}
    if claim[3] and form:
        if not form_is_told(claim[1], claim[2], form):
            # The product would have greater exponents than claims let.
            return None
        frame = Frame(claim[1], claim[2], "lex")
        made = frame.closed(product_of(frame, frame.opened(claim[3]), frame.opened(form)))
    return claim[:3] + (made,) + claim[4:]


def led_through(one, other):
    """The first claim with the other forms of a same lot in the place of its last member; None if they are no such."""
    if other[0] != "same lot" or one[1:3] != other[1:3] or one[4] != other[3]:
        return None
    return one[:4] + other[4:]


def put_beside(one, other):
    """What follows by "beside"; None if nothing does."""
    if one[0] != "roots" or other[0] != "roots" or one[1] != other[1] or one[3] is None or one[3] != other[2]:
        return None
    return one[:3] + (other[3], one[4] + other[4])


def put_together(one, other):
    """What follows by "parts"; None if nothing does."""
    if one[0] != "parts" or other[0] != "parts" or one[1] != other[1]:
        return None
    counts = {}
    for part, many in one[3] + other[3]:
        counts[part] = counts.get(part, 0) + many
    row = sorted([(len(part), part) for part in counts])
    return ("parts", one[1], product_poly(one[1], one[2], other[2]), tuple([(part, counts[part]) for _, part in row]))


def read_at_prime(claim, prime):
    """What follows by "at"; None if nothing does."""
    if claim[0] != "all primes but" or claim[2] % prime == 0:
        return None
    # A false claim can have bottoms that do not divide powers of its number.
    if any([bottom % prime == 0 for bottom in bottoms_of_claim(claim[1])]):
        return None
    return led(claim[1], prime)


def following(reason, claims):
    """The claim that follows by a step from the claims of its names; None if none does."""
    kind, first = reason[0], claims[0]
    if kind == "times":
        return multiplied(first, reason[2])
    if kind == "turned":
        return first[:3] + (first[4], first[3]) if first[0] == "same lot" else None
    if kind == "at":
        return read_at_prime(first, reason[2])
    second = claims[1]
    if kind == "sum":
        return summed(first, second)
    if kind == "beside":
        return put_beside(first, second)
    if kind == "parts":
        return put_together(first, second)
    fitting = ("within", "outside") if kind == "through" else ("same lot",)
    return led_through(first, second) if first[0] in fitting else None


def follows_from(claim, reason, known):
    """Whether a claim follows by a step from the claims that are known for names; not if one of them is not known."""
    names = names_in(reason)
    if not all([name in known for name in names]):
        return False
    return following(reason, [known[name] for name in names]) == claim


def has_no_objects(value):
    """Whether the value is made of integers, booleans, None, strings, tuples, lists and dicts alone."""
    if isinstance(value, dict):
        return all([has_no_objects(key) and has_no_objects(value[key]) for key in value])
    if isinstance(value, (tuple, list)):
        return all([has_no_objects(member) for member in value])
    return value is None or isinstance(value, (int, str))


def reason_fits(value):
    """Whether the value is a reason."""
    if is_row(value, 2) and isinstance(value[0], str) and value[0] == "paper":
        return has_no_objects(value[1])
    return step_fits(value)


def line_fits(line, known):
    """Whether the value is a line that can stand behind lines with the known names."""
    if not is_row(line, 3) or not name_fits(line[0]) or line[0] in known:
        return False
    if not is_claim(line[1]) or not reason_fits(line[2]):
        return False
    return all([name in known for name in names_in(line[2])])


def first_unfit(rows, most):
    """The index of the first value that is no line, or cannot stand there in a row of lines; None if all can."""
    known = {}
    for index, line in enumerate(rows):
        if index >= most or not line_fits(line, known):
            return index
        known[line[0]] = True
    return None
