"""Reduced bases of what is within forms, rests, multiples, and papers for bases (stage 11)."""
from heapq import heappop, heappush
from itertools import combinations

from zeroorone.base.plain import SIXTY_DIGITS
from zeroorone.many.packed import divided_by, dividers_of, is_finite, rest_by, standing_keys
from zeroorone.many.terms import MAX_FORM_DEGREE, check_form, check_forms, check_order, check_size
from zeroorone.paper.forms import Frame, all_ordered, common_key, crossed_of, difference_of, form_fits, head_of
from zeroorone.paper.forms import letters_of, nothing, raised, scaled, settled, sum_of, sum_of_products, unit
from zeroorone.paper.numbers import number_of
from zeroorone.search.building import built, leave_nothing
from zeroorone.tables.rows import put_to

MAX_JUDGED = 12
# Great primes, which seldom mislead.
LEARNED_BY = (2147483647, 2147483629)


class Basis:
    """What is within some forms: the rows of the reduced basis in an order, with multiples of the forms for each."""

    def __init__(self, ground, size, forms, order="deg"):
        self.frame = Frame(ground, size, order)
        self.gens = self.frame.all_opened(forms)
        build = built(self.frame, self.gens)
        final = build.reduced()
        self.rows = [row[0] for row in final]
        self.downs = build.told_downs(final, len(self.gens))

    def down(self, quotients):
        """The multiples of the forms for the sum of the rows times the quotients."""
        return [
            sum_of_products(self.frame, quotients, [told[place] for told in self.downs])
            for place in range(len(self.gens))
        ]

    def by(self, order):
        """The frame and the rows of the reduced basis in an order, if this one is by "deg"."""
        if order == "deg":
            return (self.frame, self.rows)
        return lex_rows(self.frame, self.rows)

    def multiples(self, inner):
        """The forms that are multiples of the forms for what is within them, by this frame."""
        return self.frame.all_closed(self.down(divided_by(self.frame, inner, self.rows)[0]))

    def paper(self, frame, rows):
        """The paper that the rows are the reduced basis in the order of the frame."""
        down = tuple([self.multiples(self.frame.opened(row)) for row in frame.all_closed(rows)])
        gens = frame.all_opened(self.frame.all_closed(self.gens))
        up = tuple([frame.all_closed(divided_by(frame, gen, rows)[0]) for gen in gens])
        known = pair_multiples(frame, rows)
        pairs = tuple([frame.all_closed(known[pair]) for pair in combinations(range(len(rows)), 2)])
        return (down, up, pairs)


def tail_multiples(frame, rows, i, j):
    """The multiples for the crossed pair of two monic rows whose heads have no letter in common.

    Each row less its head is taken, as the products of both heads drop out.
    """
    multiples = [nothing() for _ in rows]
    for at, further, sign in ((i, j, -1), (j, i, 1)):
        head = head_of(rows[further])
        tail = {key: number for key, number in rows[further][0].items() if key != head}
        multiples[at] = scaled(frame, (tail, rows[further][1]), sign, 1)
    return multiples


def joined_multiples(frame, one, other, up, down):
    """The sum of multiples, times a term each."""
    return [sum_of(frame, raised(left, up), raised(right, down)) for left, right in zip(one, other)]


def pair_multiples(frame, rows):
    """For each two indices of monic rows of a basis the multiples of the rows for their crossed pair.

    A division is needed only where no third row tells them: with its head the pair is a sum of two other pairs.
    """
    heads_known = [head_of(row) for row in rows]
    pairs = [(common_key(frame, heads_known[i], heads_known[j]), i, j) for i, j in combinations(range(len(rows)), 2)]
    known = {}
    for common, i, j in sorted(pairs):
        leading = [k for k, key in enumerate(heads_known) if frame.leads(key, common)]
        third = [k for k in leading if (i, k) in known and (k, j) in known]
        if common == heads_known[i] + heads_known[j]:
            multiples = tail_multiples(frame, rows, i, j)
        elif third:
            k = third[0]
            up = common - common_key(frame, heads_known[i], heads_known[k])
            down = common - common_key(frame, heads_known[k], heads_known[j])
            multiples = joined_multiples(frame, known[(i, k)], known[(k, j)], up, down)
        else:
            multiples = divided_by(frame, crossed_of(frame, rows[i], rows[j]), rows)[0]
        known[(i, j)] = multiples
        # The other way round the crossed pair is the opposite.
        known[(j, i)] = [scaled(frame, inner, -1, 1) for inner in multiples]
    return known


def vector_on(keys, inner):
    """The integers of an inner form at these keys."""
    return [inner[0].get(key, 0) for key in keys]


def walked_rows(frame, rows, further):
    """The reduced basis in the order of the second frame, of that of finite forms in the order of the first one.

    Keys are taken in the second order; each rest that is a sum of multiples of earlier ones makes a row.
    """
    dividers = dividers_of(frame, rows)
    columns = standing_keys(frame, [head_of(row) for row in rows])
    letters = list(zip(letters_of(frame), letters_of(further)))
    found, heads_found, rungs, keys, rests = [], [], [], [], []
    waiting = [(0, 0, 0)]
    while waiting:
        key, parent, index = heappop(waiting)
        if keys and keys[-1] == key or any([further.leads(lower, key) for lower in heads_found]):
            continue
        inner = unit()
        if keys:
            inner = raised(rests[parent], letters[index][0])
        inner = rest_by(frame, inner, dividers)
        sums = put_to(frame.ground, rungs, vector_on(columns, inner), inner[1], len(columns))
        if sums is None:
            keys.append(key)
            rests.append(inner)
            for at, (_, letter) in enumerate(letters):
                heappush(waiting, (key + letter, len(keys) - 1, at))
        else:
            numbers = {lower: number for lower, number in zip(keys + [key], sums)}
            found.append(settled(further, numbers, sums[-1]))
            heads_found.append(key)
    return found


def rests_of_keys(frame, rows, keys):
    """The rests of terms with the number 1, by rows of a basis, for keys of its order and all that lead to them."""
    dividers = dividers_of(frame, rows)
    letters = letters_of(frame)
    rests = {0: rest_by(frame, unit(), dividers)}
    waiting = list(keys)
    while waiting:
        key = waiting[-1]
        lower = [letter for letter in letters if frame.leads(letter, key)]
        if key in rests:
            waiting.pop()
        elif key - lower[0] in rests:
            rests[key] = rest_by(frame, raised(rests[key - lower[0]], lower[0]), dividers)
        else:
            waiting.append(key - lower[0])
    return rests


def row_on(frame, further, rests, keys):
    """The monic row with these keys of the second order, the last one its head, that is within; None if none is."""
    vectors = [rests[frame.packed(further.unpacked(key))] for key in keys]
    columns = sorted({key for inner in vectors for key in inner[0]})
    rungs = []
    for key, inner in zip(keys, vectors):
        sums = put_to(frame.ground, rungs, vector_on(columns, inner), inner[1], len(columns))
        if (sums is None) == (key == keys[-1]):
            return None
    return settled(further, {key: number for key, number in zip(keys, sums)}, sums[-1])


def rows_modulo(frame, rows, prime):
    """(frame, rows): rows by a frame over the fractions, read modulo a prime that divides no bottom."""
    lower = Frame(prime, frame.size, frame.order)
    return (lower, [settled(lower, row[0], row[1]) for row in rows])


def learned_rows(frame, rows, further, prime):
    """The reduced basis in the order of the second frame over the fractions, its keys told by that modulo a prime.

    None if the prime misleads: if these rows are not there, or no basis, or the rows by the first order not within.
    """
    upper = Frame(prime, frame.size, further.order)
    lower, read = rows_modulo(frame, rows, prime)
    guessed = [row[0] for row in built(upper, upper.all_opened(lower.all_closed(read))).reduced()]
    keys = [sorted(row[0]) for row in guessed]
    rests = rests_of_keys(frame, rows, [frame.packed(further.unpacked(key)) for told in keys for key in told])
    found = [row_on(frame, further, rests, told) for told in keys]
    if None in found or not leave_nothing(further, found):
        return None
    dividers = dividers_of(further, found)
    if any([rest_by(further, inner, dividers)[0] for inner in further.all_opened(frame.all_closed(rows))]):
        return None
    return found


def lex_rows(frame, rows):
    """The frame by "lex", and the reduced basis in it of what is within rows that are one by "deg"."""
    further = Frame(frame.ground, frame.size, "lex")
    if is_finite(frame, [head_of(row) for row in rows]):
        return (further, walked_rows(frame, rows, further))
    if frame.ground == 0:
        # Over the fractions the numbers would grow far longer on the way than they are in the end.
        for prime in LEARNED_BY:
            if all([row[1] % prime != 0 for row in rows]):
                found = learned_rows(frame, rows, further, prime)
                if found is not None:
                    return (further, found)
    build = built(further, further.all_opened(frame.all_closed(rows)))
    return (further, [row[0] for row in build.reduced()])


def rows_by(ground, size, order, forms):
    """The frame of the order, and the rows of the reduced basis of what is within the forms."""
    frame = Frame(ground, size, "deg")
    rows = [row[0] for row in built(frame, frame.all_opened(forms)).reduced()]
    return (frame, rows) if order == "deg" else lex_rows(frame, rows)


def check_question(ground, size, order, forms):
    """Refuse what is wrong among these parameters, in their sequence."""
    check_size(ground, size)
    check_order(order)
    check_forms(ground, size, forms)


def reduced_basis(ground, size, order, forms):
    """The reduced basis of what is within the forms."""
    check_question(ground, size, order, forms)
    frame, rows = rows_by(ground, size, order, forms)
    return frame.all_closed(rows)


def basis_answer(ground, size, order, forms):
    """The claim about the reduced basis of what is within the forms, and a paper."""
    check_question(ground, size, order, forms)
    basis = Basis(ground, size, forms)
    frame, rows = basis.by(order)
    return (("basis", ground, size, order, all_ordered(forms), frame.all_closed(rows)), basis.paper(frame, rows))


def heads(ground, size, order, forms):
    """The heads of the reduced basis, ascending in the order."""
    check_question(ground, size, order, forms)
    frame, rows = rows_by(ground, size, order, forms)
    return tuple([frame.unpacked(head_of(row)) for row in rows])


def rest(ground, size, order, forms, form):
    """The rest of the form by the reduced basis."""
    check_question(ground, size, order, forms)
    check_form(ground, size, form)
    frame, rows = rows_by(ground, size, order, forms)
    return frame.closed(rest_by(frame, frame.opened(form), dividers_of(frame, rows)))


def rest_multiples(ground, size, order, forms, form):
    """Multiples of the forms for the form less its rest."""
    check_question(ground, size, order, forms)
    check_form(ground, size, form)
    basis = Basis(ground, size, forms)
    frame, rows = basis.by(order)
    inner = frame.opened(form)
    within = difference_of(frame, inner, rest_by(frame, inner, dividers_of(frame, rows)))
    return basis.multiples(basis.frame.opened(frame.closed(within)))


def are_judged_forms(ground, size, value):
    """Whether the value is a tuple of at most twelve forms other than 0."""
    if not isinstance(value, tuple) or len(value) > MAX_JUDGED:
        return False
    return all([form_fits(ground, size, form, MAX_FORM_DEGREE, SIXTY_DIGITS) and len(form) > 0 for form in value])


def is_basis(ground, size, order, value):
    """Whether the value is a tuple of at most twelve forms other than 0 that are a basis."""
    check_size(ground, size)
    check_order(order)
    if not are_judged_forms(ground, size, value):
        return False
    frame = Frame(ground, size, order)
    return leave_nothing(frame, frame.all_opened(value))


def is_reduced(ground, size, order, value):
    """Whether the value is such a basis, and reduced."""
    if not is_basis(ground, size, order, value):
        return False
    frame = Frame(ground, size, order)
    inners = frame.all_opened(value)
    keys = [head_of(inner) for inner in inners]
    if any([form[frame.unpacked(key)] != number_of(ground, 1) for form, key in zip(value, keys)]):
        return False
    if any([keys[index] >= keys[index + 1] for index in range(len(keys) - 1)]):
        return False
    return not any([
        frame.leads(keys[place], lower)
        for at, inner in enumerate(inners) for lower in inner[0] for place in range(len(keys)) if place != at
    ])
