"""Wishes of equations, their cases, and the claims and papers about them (stage 14)."""
from zeroorone.paper.bases import MOST_SIZE, form_is_told
from zeroorone.paper.numbers import is_between, is_row
from zeroorone.paper.places import shows_point
from zeroorone.paper.powers import shows_no_point


def wish_fits(value, fits, most, depth):
    """Whether the value is a wish of so many members and so deep at most; None bars nothing.

    The function tells which forms fit.
    """
    if not isinstance(value, tuple) or len(value) < 2 or not isinstance(value[0], str):
        return False
    if depth is not None:
        if depth < 1:
            return False
        depth -= 1
    if value[0] == "is":
        return len(value) == 2 and fits(value[1])
    if value[0] not in ("not", "and", "or") or value[0] == "not" and len(value) != 2:
        return False
    if most is not None and len(value) > most + 1:
        return False
    return all([wish_fits(member, fits, most, depth) for member in value[1:]])


def is_either(wish, is_turned):
    """Whether one of the members of the wish, turned by "not" or as it stands, is enough."""
    return wish[0] == ("and" if is_turned else "or")


def count_cases(wish, is_turned):
    """How many cases a wish has, as it stands or with "not" in front."""
    if wish[0] == "is":
        return 1
    if wish[0] == "not":
        return count_cases(wish[1], not is_turned)
    counts = [count_cases(member, is_turned) for member in wish[1:]]
    if is_either(wish, is_turned):
        return sum(counts)
    many = 1
    for count in counts:
        many = many * count
    return many


def case_at(wish, is_turned, index):
    """The case (zeros, others) with this index of a wish, as it stands or with "not" in front."""
    if wish[0] == "is":
        return ((), (wish[1],)) if is_turned else ((wish[1],), ())
    if wish[0] == "not":
        return case_at(wish[1], not is_turned, index)
    if is_either(wish, is_turned):
        for member in wish[1:]:
            many = count_cases(member, is_turned)
            if index < many:
                return case_at(member, is_turned, index)
            index -= many
    zeros, others = (), ()
    # The case of the first member changes last.
    for member in reversed(wish[1:]):
        many = count_cases(member, is_turned)
        more_zeros, more_others = case_at(member, is_turned, index % many)
        zeros, others = more_zeros + zeros, more_others + others
        index = index // many
    return (zeros, others)


def claimed_wish_fits(size, wish):
    """Whether the value is a wish, as claims let it."""
    return wish_fits(wish, lambda form: form_is_told(0, size, form), None, None)


def happens_fits(size, wish):
    """Whether the claim that a wish happens, or never does, is well made."""
    return is_between(size, 1, MOST_SIZE) and claimed_wish_fits(size, wish)


def shows_happens(paper, size, wish):
    """Whether there is a point for one of the cases."""
    if not is_row(paper, 4) or not is_between(paper[0], 0, count_cases(wish, False) - 1):
        return False
    zeros, others = case_at(wish, False, paper[0])
    return shows_point(paper[1:], 0, size, zeros, others)


def shows_never(paper, size, wish):
    """Whether there is a point for no case."""
    if not is_row(paper, count_cases(wish, False)):
        return False
    for index, shown in enumerate(paper):
        zeros, others = case_at(wish, False, index)
        if not shows_no_point(shown, 0, size, zeros, others):
            return False
    return True


def only(one, other):
    """The wish for one and not the other."""
    return ("and", one, ("not", other))


def alike_fits(size, one, other):
    """Whether the claim that two wishes are alike, or unlike, is well made."""
    return happens_fits(size, one) and claimed_wish_fits(size, other)


def shows_alike(paper, size, one, other):
    """Whether neither wish happens without the other."""
    if not is_row(paper, 2):
        return False
    return shows_never(paper[0], size, only(one, other)) and shows_never(paper[1], size, only(other, one))


def shows_unlike(paper, size, one, other):
    """Whether one of the wishes happens without the other."""
    if not is_row(paper, 2) or not is_between(paper[0], 0, 1):
        return False
    return shows_happens(paper[1], size, only(one, other) if paper[0] == 0 else only(other, one))


WISH_KINDS = {
    "happens": (2, happens_fits, shows_happens),
    "never": (2, happens_fits, shows_never),
    "alike": (3, alike_fits, shows_alike),
    "unlike": (3, alike_fits, shows_unlike),
}
