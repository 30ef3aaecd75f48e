"""The claims that hold modulo all primes but told ones, and papers for them (stage 17).

A shape tells what a value is made of: "keep" (no numbers of the ground), "vector", "poly", "form", ("each", shape) for
a tuple of such, ("row", shape, ..) for a tuple of just these.
"""
from math import gcd

from zeroorone.paper.bases import BASIS_KINDS
from zeroorone.paper.letter import REST_KINDS
from zeroorone.paper.numbers import is_between
from zeroorone.paper.parts import PART_KINDS
from zeroorone.paper.places import PLACE_KINDS
from zeroorone.paper.powers import POWER_KINDS
from zeroorone.paper.tables import TABLE_KINDS

# The shapes of the members of a claim behind the ground, and of a paper.
SHAPES = {
    "barred": (("row", ("each", "vector"), "vector"), "vector"),
    "basis": (
        ("row", "keep", "keep", ("each", "form"), ("each", "form")),
        ("row", ("each", ("each", "form")), ("each", ("each", "form")), ("each", ("each", "form"))),
    ),
    "common": (("row", "poly", "poly", "poly"), ("each", "poly")),
    "no point": (("row", "keep", ("each", "form"), ("each", "form")), ("row", "keep", ("each", "form"))),
    "parted": (("row", "poly"), ("each", "poly")),
    "point": (
        ("row", "keep", ("each", "form"), ("each", "form")), ("row", "poly", ("each", "poly"), ("each", "poly")),
    ),
    "rank": (("row", ("each", "vector"), "keep"), ("row", "keep", "keep", ("each", "vector"), ("each", "vector"))),
    "same lot": (
        ("row", "keep", ("each", "form"), ("each", "form")),
        ("row", ("each", ("each", "form")), ("each", ("each", "form"))),
    ),
    "solved": (("row", ("each", "vector"), "vector"), "vector"),
    "within": (("row", "keep", "form", ("each", "form")), ("each", "form")),
}


def judge_of_led(kind):
    """The judge of one of the ten kinds, as its stage tells it; None for other kinds."""
    if kind not in SHAPES:
        return None
    for judge in (BASIS_KINDS.get(kind), REST_KINDS.get(kind), PART_KINDS.get(kind), PLACE_KINDS.get(kind)):
        if judge is not None:
            return judge
    return POWER_KINDS.get(kind) or TABLE_KINDS.get(kind)


def can_be_led(claim):
    """Whether the value is a well made claim of the ground 0 of one of the ten kinds."""
    if not isinstance(claim, tuple) or len(claim) < 2 or not isinstance(claim[0], str):
        return False
    judge = judge_of_led(claim[0])
    if judge is None or len(claim) != judge[0] + 1 or not is_between(claim[1], 0, 0):
        return False
    members, fits = claim[1:], judge[1]
    return fits(*members)


def shows_led(paper, claim):
    """Whether the value is a paper for a claim that can be led."""
    members, shows = claim[1:], judge_of_led(claim[0])[2]
    return shows(paper, *members)


def parts_of(shape, value):
    """Pairs of the shapes and values that a value of a shape is made of."""
    if shape[0] == "each":
        return [(shape[1], member) for member in value]
    return list(zip(shape[1:], value))


def numbers_in(shape, value):
    """All fractions in a value of a shape."""
    if shape == "keep":
        return []
    if shape in ("vector", "poly"):
        return list(value)
    if shape == "form":
        return list(value.values())
    return [number for lower, member in parts_of(shape, value) for number in numbers_in(lower, member)]


def bottoms_of_claim(claim):
    """The bottoms of a claim that can be led; for "parted" the top of the head number is told among them."""
    bottoms = [bottom for _, bottom in numbers_in(SHAPES[claim[0]][0], claim[2:])]
    if claim[0] == "parted":
        bottoms.append(abs(claim[2][-1][0]))
    return bottoms


def bottoms_of_paper(claim, paper):
    """The bottoms of a paper for a claim that can be led."""
    return [bottom for _, bottom in numbers_in(SHAPES[claim[0]][1], paper)]


def divides_power(bottom, number):
    """Whether an integer above 0 divides some power of a number above 0."""
    common = gcd(bottom, number)
    while common > 1:
        bottom = bottom // common
        common = gcd(bottom, number)
    return bottom == 1


def every_fits(claim, number):
    """Whether the claim about all primes but told ones is well made."""
    return can_be_led(claim) and is_between(number, 1, None)


def shows_every(paper, claim, number):
    """Whether the paper is one for the claim, with bottoms that divide powers of the number."""
    if not shows_led(paper, claim):
        return False
    return all([divides_power(bottom, number) for bottom in bottoms_of_claim(claim) + bottoms_of_paper(claim, paper)])


EVERY_KINDS = {
    "all primes but": (2, every_fits, shows_every),
}
