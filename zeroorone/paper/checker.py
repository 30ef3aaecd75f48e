"""The checker: which values are claims, and which values are papers for them (stage 18)."""
from zeroorone.errors import InvalidClaim
from zeroorone.paper.bases import BASIS_KINDS
from zeroorone.paper.counts import COUNT_KINDS
from zeroorone.paper.every import EVERY_KINDS
from zeroorone.paper.finite import FINITE_KINDS
from zeroorone.paper.letter import REST_KINDS
from zeroorone.paper.parted import FORM_PART_KINDS
from zeroorone.paper.parts import PART_KINDS
from zeroorone.paper.places import PLACE_KINDS
from zeroorone.paper.powers import POWER_KINDS
from zeroorone.paper.roots import ROOT_KINDS
from zeroorone.paper.tables import TABLE_KINDS
from zeroorone.paper.values import copied
from zeroorone.paper.whole import WHOLE_KINDS
from zeroorone.paper.wishes import WISH_KINDS

# Each kind, and its opposite one.
OPPOSITES = (
    ("rests", "no rests"), ("prime", "split"), ("solved", "barred"), ("whole", "never whole"),
    ("reached", "never reached"), ("follows", "escapes"), ("mixed", "never mixed"), ("joined", "never joined"),
    ("unsplit", "parted"), ("within", "outside"), ("same lot", "unlike lots"), ("point", "no point"),
    ("happens", "never"), ("alike", "unlike"), ("parted form", "unsplit form"),
)


def judge_of(kind):
    """(many, fits, shows) for a kind: the number of members, and what judges them and papers; None for no kind."""
    judge = WHOLE_KINDS.get(kind) or TABLE_KINDS.get(kind) or REST_KINDS.get(kind) or PART_KINDS.get(kind)
    judge = judge or ROOT_KINDS.get(kind) or BASIS_KINDS.get(kind) or FINITE_KINDS.get(kind) or PLACE_KINDS.get(kind)
    judge = judge or POWER_KINDS.get(kind) or WISH_KINDS.get(kind) or COUNT_KINDS.get(kind)
    return judge or FORM_PART_KINDS.get(kind) or EVERY_KINDS.get(kind)


def kinds():
    """The ascending tuple of all kinds."""
    found = list(WHOLE_KINDS) + list(TABLE_KINDS) + list(REST_KINDS) + list(PART_KINDS) + list(ROOT_KINDS)
    found += list(BASIS_KINDS) + list(FINITE_KINDS) + list(PLACE_KINDS) + list(POWER_KINDS) + list(WISH_KINDS)
    return tuple(sorted(found + list(COUNT_KINDS) + list(FORM_PART_KINDS) + list(EVERY_KINDS)))


def is_claim(value):
    """Whether the value is a well made claim."""
    if not isinstance(value, tuple) or len(value) < 1 or not isinstance(value[0], str):
        return False
    judge = judge_of(value[0])
    if judge is None or len(value) != judge[0] + 1:
        return False
    members, fits = value[1:], judge[1]
    return fits(*members)


def takes(claim, paper):
    """Whether the paper is one for the claim."""
    if not is_claim(claim):
        return False
    members, shows = claim[1:], judge_of(claim[0])[2]
    return shows(paper, *members)


def opposite_kind(kind):
    """The kind that says the opposite of a kind; None if there is none."""
    for one, other in OPPOSITES:
        if kind in (one, other):
            return other if kind == one else one
    return None


def opposite(claim):
    """The opposite claim, None if there is none."""
    if not is_claim(claim):
        raise InvalidClaim("no well made claim")
    if claim[0] == "finite":
        return copied(("endless",) + claim[1:4])
    turned = (opposite_kind(claim[0]),) + claim[1:]
    return copied(turned) if is_claim(turned) else None
