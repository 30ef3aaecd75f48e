"""Divisions of inner forms, and standing keys, without checks."""
from heapq import heapify, heappop, heappush
from math import gcd

from zeroorone.paper.finite import has_power
from zeroorone.paper.forms import common_divisor, head_of, letters_of, monic
from zeroorone.paper.numbers import quotient, whole_row


def dividers_of(frame, rows):
    """(index, head, numbers, factor) of all inner forms other than 0; the form is the numbers, times the factor.

    The factor is a pair of integers. The head number is above 0, and it is 1 modulo a prime.
    """
    dividers = []
    for index, row in enumerate(rows):
        if row[0]:
            head = head_of(row)
            lead = row[0][head]
            if frame.ground != 0:
                dividers.append((index, head, monic(frame, row)[0], (lead, 1)))
            else:
                common = common_divisor(list(row[0].values()), 0)
                common = -common if lead < 0 else common
                numbers = {key: number // common for key, number in row[0].items()}
                dividers.append((index, head, numbers, (common, row[1])))
    return dividers


def first_lead(frame, dividers, key):
    """The first divider whose head leads to the key; None if there is none."""
    guarded, guards = key | frame.guards, frame.guards
    for divider in dividers:
        if (guarded - divider[1]) & guards == guards:
            return divider
    return None


def taken_off(frame, left, waiting, key, divider):
    """(left, up): what is left, times up, with the head taken off by a divider; its keys are put to the heap, too."""
    _, head, numbers, _ = divider
    ground = frame.ground
    number, lead = left[key], numbers[head]
    up = 1
    if lead != 1:
        common = gcd(number, lead)
        up, number = lead // common, number // common
        if up != 1:
            left = {kept: up * part for kept, part in left.items()}
    shift = key - head
    for lower, part in numbers.items():
        place = lower + shift
        value = left.get(place, 0) - number * part
        if ground != 0:
            value = value % ground
        if value == 0:
            del left[place]
        else:
            if place not in left:
                heappush(waiting, -place)
            left[place] = value
    return (left, up)


def division_steps(frame, inner, dividers):
    """(terms, rest) of the division of an inner form, both in lists: (index, key, top, bottom), and (key, top, bottom).

    What is left is a dict of integers, times the quotient of top and bottom.
    """
    left, top, bottom = dict(inner[0]), 1, inner[1]
    waiting = [-key for key in left]
    heapify(waiting)
    terms, rest = [], []
    while waiting:
        key = -heappop(waiting)
        if key in left:
            found = first_lead(frame, dividers, key)
            if found is None:
                rest.append((key, left[key] * top, bottom))
                del left[key]
                continue
            index, head, numbers, factor = found
            terms.append((index, key - head, left[key] * top * factor[1], bottom * numbers[head] * factor[0]))
            left, up = taken_off(frame, left, waiting, key, found)
            if up != 1:
                bottom = bottom * up
                common = common_divisor(list(left.values()), 0)
                if common > 1:
                    left = {kept: part // common for kept, part in left.items()}
                    top = top * common
                common = gcd(top, bottom)
                top, bottom = top // common, bottom // common
    return (terms, rest)


def gathered(frame, terms):
    """The inner form of a list of terms (key, top, bottom) with unlike keys."""
    numbers, bottom = whole_row(frame.ground, [quotient(frame.ground, top, below) for _, top, below in terms])
    return ({key: number for (key, _, _), number in zip(terms, numbers)}, bottom)


def quotients_of(frame, terms, many):
    """The tuple of the inner quotients of a list of terms (index, key, top, bottom)."""
    lists = [[] for _ in range(many)]
    for index, key, top, bottom in terms:
        lists[index].append((key, top, bottom))
    return [gathered(frame, told) for told in lists]


def divided_by(frame, inner, rows):
    """The quotients and the rest of an inner form by others, as [10.3] tells it."""
    terms, rest = division_steps(frame, inner, dividers_of(frame, rows))
    return (quotients_of(frame, terms, len(rows)), gathered(frame, rest))


def rest_by(frame, inner, dividers):
    """The rest of an inner form by dividers."""
    return gathered(frame, division_steps(frame, inner, dividers)[1])


def is_finite(frame, keys):
    """Whether only finitely many keys are no multiples of these heads."""
    return all([has_power([frame.unpacked(key) for key in keys], index) for index in range(frame.size)])


def standing_keys(frame, keys):
    """The packed keys that are no multiples of these heads, ascending; they are finitely many."""
    found = {}
    waiting = [0]
    while waiting:
        key = waiting.pop()
        if key not in found and not any([frame.leads(lower, key) for lower in keys]):
            found[key] = True
            waiting.extend([key + letter for letter in letters_of(frame)])
    return sorted(found)
