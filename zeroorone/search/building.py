"""The search for a basis of what is within forms: crossed pairs are taken until all of them leave the rest 0."""
from heapq import heappop, heappush
from math import gcd

from zeroorone.many.packed import dividers_of, division_steps, gathered, quotients_of
from zeroorone.paper.forms import common_key, monic, scaled, sum_of, sum_of_products, unit


class Build:
    """A search for a basis: the rows so far, the pairs of them that wait, and how each row came.

    A row is a divider: its index, its head, its integers, without a common divisor, and the factor (1, 1). Its origin
    is a tuple (gen, terms, top, bottom): it is the quotient of top and bottom, times the sum of the gen with this index
    (None for none) and of terms (index, key, top, bottom) times earlier rows.
    """

    def __init__(self, frame):
        self.frame = frame
        self.rows = []
        self.origins = []
        self.excesses = []
        self.queue = []
        self.waiting = {}

    def put(self, gen, terms, rest, sugar):
        """Put what a division left to the rows, and its pairs with the earlier ones to the queue."""
        _, head, numbers, factor = dividers_of(self.frame, [gathered(self.frame, rest)])[0]
        index = len(self.rows)
        self.origins.append((gen, terms, factor[1], factor[0]))
        self.excesses.append(sugar - sum(self.frame.unpacked(head)))
        pairs = [(row, common_key(self.frame, row[1], head)) for row in self.rows]
        for row, common in pairs:
            # Pairs without a letter in common in their heads leave the rest 0.
            if common != row[1] + head:
                excess = max(self.excesses[row[0]], self.excesses[index])
                heappush(self.queue, (excess + sum(self.frame.unpacked(common)), common, row[0], index))
                self.waiting[(row[0], index)] = True
        self.rows.append((index, head, numbers, (1, 1)))

    def is_told(self, i, j, common):
        """Whether the crossed pair is a sum of such pairs that were taken already, by a third row."""
        for row in self.rows:
            k = row[0]
            if k not in (i, j) and self.frame.leads(row[1], common):
                if (min(i, k), max(i, k)) not in self.waiting and (min(j, k), max(j, k)) not in self.waiting:
                    return True
        return False

    def pair(self, i, j, common):
        """(terms, numbers) of a crossed pair of two rows, times an integer."""
        one, other = self.rows[i], self.rows[j]
        left, right = one[2][one[1]], other[2][other[1]]
        share = gcd(left, right)
        up, down = right // share, -(left // share)
        raised = ({key + common - one[1]: number * up for key, number in one[2].items()}, 1)
        further = ({key + common - other[1]: number * down for key, number in other[2].items()}, 1)
        terms = [(i, common - one[1], up, 1), (j, common - other[1], down, 1)]
        return (terms, sum_of(self.frame, raised, further))

    def next_left(self):
        """(terms, rest, sugar) of the next pair that leaves a rest; None if no pair is left that does."""
        while self.queue:
            sugar, common, i, j = heappop(self.queue)
            del self.waiting[(i, j)]
            if not self.is_told(i, j, common):
                terms, inner = self.pair(i, j, common)
                taken, rest = division_steps(self.frame, inner, self.rows)
                if rest:
                    return (terms + turned_terms(taken), rest, sugar)
        return None

    def put_gen(self, gen, inner):
        """Put what the rows leave of a gen to them."""
        taken, rest = division_steps(self.frame, inner, self.rows)
        if rest:
            sugar = max([sum(self.frame.unpacked(key)) for key in inner[0]])
            self.put(gen, turned_terms(taken), rest, sugar)

    def finish(self):
        """Put rests of pairs to the rows until all pairs leave 0."""
        found = self.next_left()
        while found is not None:
            terms, rest, sugar = found
            self.put(None, terms, rest, sugar)
            found = self.next_left()

    def least_rows(self):
        """The rows whose heads are no multiples of other ones, ascending by heads."""
        least = []
        for row in self.rows:
            if not any([other[0] != row[0] and self.frame.leads(other[1], row[1]) for other in self.rows]):
                least.append(row)
        return sorted(least, key=lambda row: row[1])

    def reduced(self):
        """(inner, terms, top, bottom) for each row of the reduced basis, its origin being told without a gen."""
        least = self.least_rows()
        found = []
        for row in least:
            others = [other for other in least if other[0] != row[0]]
            taken, rest = division_steps(self.frame, (row[2], 1), others)
            terms = [(row[0], 0, 1, 1)] + turned_terms(taken)
            found.append((monic(self.frame, gathered(self.frame, rest)), terms, 1, row[2][row[1]]))
        return found

    def told_downs(self, final, many):
        """For each row of the reduced basis the multiples of the `many` gens for it."""
        needed = {}
        for _, terms, _, _ in final:
            needed.update({term[0]: True for term in terms})
        for index in reversed(range(len(self.rows))):
            if index in needed:
                needed.update({term[0]: True for term in self.origins[index][1]})
        known = {}
        for index in sorted(needed):
            known[index] = self.told_multiples(self.origins[index], known, many)
        return [self.told_multiples((None, terms, top, bottom), known, many) for _, terms, top, bottom in final]

    def told_multiples(self, origin, known, many):
        """The multiples of the gens for what has this origin, by the known ones of the rows that it names."""
        gen, terms, top, bottom = origin
        indices = sorted({term[0] for term in terms})
        places = {index: place for place, index in enumerate(indices)}
        named = [(places[index], key, up, down) for index, key, up, down in terms]
        pieces = quotients_of(self.frame, named, len(indices))
        multiples = []
        for place in range(many):
            total = sum_of_products(self.frame, pieces, [known[index][place] for index in indices])
            if place == gen:
                total = sum_of(self.frame, total, unit())
            multiples.append(scaled(self.frame, total, top, bottom))
        return multiples


def turned_terms(terms):
    """The terms (index, key, top, bottom), taken off and not added."""
    return [(index, key, -top, bottom) for index, key, top, bottom in terms]


def built(frame, inners):
    """The search for a basis of what is within inner forms, done."""
    build = Build(frame)
    for gen, inner in enumerate(inners):
        build.put_gen(gen, inner)
    build.finish()
    return build


def leave_nothing(frame, inners):
    """Whether inner forms other than 0 are a basis: whether all crossed pairs leave the rest 0."""
    build = Build(frame)
    for inner in inners:
        build.put(None, [], [(key, number, 1) for key, number in inner[0].items()], 0)
    return build.next_left() is None
