"""Forms of any degree and length, without checks, with their keys packed into integers.

Inside, a form is a pair of a dict from packed keys to integers other than 0, and of one bottom for all of them. Over
the ground 0 the bottom is above 0 and has nothing in common with all integers at once; modulo a prime the bottom is 1,
and the integers are rests. Packed keys are compared as the order compares keys, and added as keys are added.
"""
from heapq import heapify, heappop, heappush
from math import gcd

from zeroorone.base.plain import common_multiple, is_int, is_zero, number_fits, number_of, quotient, undone_modulo
from zeroorone.base.plain import whole_row

ORDERS = ("lex", "deg")
# Far more bits than the exponents need that are met on the way.
WIDTH = 40


def form_fits(ground, size, value, most, limit):
    """Whether the value is a form with a degree to `most`, and integers below the limit; None bars nothing."""
    if not isinstance(value, dict):
        return False
    for key, number in value.items():
        if not isinstance(key, tuple) or len(key) != size:
            return False
        if not all([is_int(exponent) and exponent >= 0 for exponent in key]):
            return False
        if most is not None and sum(key) > most:
            return False
        if not number_fits(ground, number, limit) or is_zero(ground, number):
            return False
    return True


def ordered(form):
    """The form with its keys ascending."""
    return {key: form[key] for key in sorted(form)}


def all_ordered(forms):
    """The tuple of forms with their keys ascending."""
    return tuple([ordered(form) for form in forms])


class Frame:
    """A ground, a number of letters and an order, and how keys are packed for them.

    The order "first" stands beside the two others here: it compares the first exponent, and then the others by "deg".
    """

    def __init__(self, ground, size, order, width=WIDTH):
        self.ground = ground
        self.size = size
        self.order = order
        self.width = width
        self.mask = (1 << width) - 1
        # One bit ahead of each exponent stays free, so that differences can be told.
        self.guards = sum([1 << (width * (field + 1) - 1) for field in range(size)])

    def packed(self, key):
        """The integer for a key."""
        number = sum(key) if self.order == "deg" else 0
        if self.order == "first":
            number = (key[0] << self.width) + sum(key[1:])
        for exponent in key:
            number = (number << self.width) + exponent
        return number

    def unpacked(self, number):
        """The key for an integer."""
        key = []
        for _ in range(self.size):
            key.append(number & self.mask)
            number = number >> self.width
        return tuple(reversed(key))

    def leads(self, lower, upper):
        """Whether the key of the second integer is a multiple of that of the first one."""
        return ((upper | self.guards) - lower) & self.guards == self.guards

    def opened(self, form):
        """The inner form of a form."""
        numbers, bottom = whole_row(self.ground, [form[key] for key in form])
        return ({self.packed(key): number for key, number in zip(form, numbers)}, bottom)

    def closed(self, inner):
        """The form of an inner form, its keys ascending."""
        numbers, bottom = inner
        return ordered({self.unpacked(key): quotient(self.ground, numbers[key], bottom) for key in numbers})

    def all_opened(self, forms):
        """The inner forms of forms."""
        return [self.opened(form) for form in forms]

    def all_closed(self, inners):
        """The tuple of the forms of inner forms."""
        return tuple([self.closed(inner) for inner in inners])


def nothing():
    """The inner form 0."""
    return ({}, 1)


def unit():
    """The inner form 1."""
    return ({0: 1}, 1)


def common_divisor(numbers, common):
    """The greatest common divisor of integers and of one more."""
    for number in numbers:
        if common == 1:
            return 1
        common = gcd(common, number)
    return common


def settled(frame, numbers, bottom):
    """The inner form of a dict of integers over a bottom other than 0 in the ground."""
    if frame.ground != 0:
        back = undone_modulo(bottom, frame.ground)
        rests = {key: numbers[key] * back % frame.ground for key in numbers}
        return ({key: rests[key] for key in rests if rests[key] != 0}, 1)
    common = common_divisor(list(numbers.values()), abs(bottom))
    if bottom < 0:
        common = -common
    return ({key: numbers[key] // common for key in numbers if numbers[key] != 0}, bottom // common)


def mixed(frame, one, other, sign):
    """The first inner form, and the second one times the sign put to it."""
    numbers, bottom = one
    further, below = other
    common = gcd(bottom, below)
    up, down = below // common, sign * (bottom // common)
    made = {key: up * numbers[key] for key in numbers}
    for key, number in further.items():
        made[key] = made.get(key, 0) + down * number
    return settled(frame, made, bottom * up)


def sum_of(frame, one, other):
    """The sum of two inner forms."""
    return mixed(frame, one, other, 1)


def difference_of(frame, one, other):
    """The difference of two inner forms."""
    return mixed(frame, one, other, -1)


def product_of(frame, one, other):
    """The product of two inner forms."""
    return sum_of_products(frame, [one], [other])


def power_of(frame, inner, many):
    """The power of an inner form, 1 for 0."""
    result = unit()
    for _ in range(many):
        result = product_of(frame, result, inner)
    return result


def scaled(frame, inner, top, bottom):
    """The inner form times the quotient of two integers, the second one not 0 in the ground."""
    numbers, below = inner
    return settled(frame, {key: top * numbers[key] for key in numbers}, below * bottom)


def raised(inner, key):
    """The inner form times the term with this key and the number 1."""
    return ({lower + key: number for lower, number in inner[0].items()}, inner[1])


def sum_of_products(frame, ones, others):
    """The sum of the products of the inner forms of two equally long lists."""
    pairs = [(one, other) for one, other in zip(ones, others) if one[0] and other[0]]
    bottom = common_multiple([one[1] * other[1] for one, other in pairs])
    made = {}
    for one, other in pairs:
        factor = bottom // (one[1] * other[1])
        for lower, number in one[0].items():
            times = number * factor
            for key, further in other[0].items():
                place = lower + key
                made[place] = made.get(place, 0) + times * further
    return settled(frame, made, bottom)


def head_of(inner):
    """The packed head of an inner form other than 0."""
    return max(inner[0])


def monic(frame, inner):
    """The inner form other than 0, divided by its head number."""
    return settled(frame, inner[0], inner[0][head_of(inner)])


def common_key(frame, one, other):
    """The common multiple of two packed keys."""
    return frame.packed(tuple([max(left, right) for left, right in zip(frame.unpacked(one), frame.unpacked(other))]))


def crossed_of(frame, one, other):
    """The crossed pair of two inner forms other than 0."""
    left, right = head_of(one), head_of(other)
    common = common_key(frame, left, right)
    # Both heads get the number 1, so they drop out.
    first, second = raised(monic(frame, one), common - left), raised(monic(frame, other), common - right)
    return difference_of(frame, first, second)


def dividers_of(frame, rows):
    """(index, head, numbers, factor) of all inner forms other than 0; the form is the numbers, times the factor.

    The factor is a pair of integers. The head number is above 0, and it is 1 modulo a prime.
    """
    dividers = []
    for index, row in enumerate(rows):
        if row[0]:
            head = head_of(row)
            lead = row[0][head]
            if frame.ground != 0:
                dividers.append((index, head, monic(frame, row)[0], (lead, 1)))
            else:
                common = common_divisor(list(row[0].values()), 0)
                common = -common if lead < 0 else common
                numbers = {key: number // common for key, number in row[0].items()}
                dividers.append((index, head, numbers, (common, row[1])))
    return dividers


def first_lead(frame, dividers, key):
    """The first divider whose head leads to the key; None if there is none."""
    guarded, guards = key | frame.guards, frame.guards
    for divider in dividers:
        if (guarded - divider[1]) & guards == guards:
            return divider
    return None


def taken_off(frame, left, waiting, key, divider):
    """(left, up): what is left, times up, with the head taken off by a divider; its keys are put to the heap, too."""
    _, head, numbers, _ = divider
    ground = frame.ground
    number, lead = left[key], numbers[head]
    up = 1
    if lead != 1:
        common = gcd(number, lead)
        up, number = lead // common, number // common
        if up != 1:
            left = {kept: up * part for kept, part in left.items()}
    shift = key - head
    for lower, part in numbers.items():
        place = lower + shift
        value = left.get(place, 0) - number * part
        if ground != 0:
            value = value % ground
        if value == 0:
            del left[place]
        else:
            if place not in left:
                heappush(waiting, -place)
            left[place] = value
    return (left, up)


def division_steps(frame, inner, dividers):
    """(terms, rest) of the division of an inner form, both in lists: (index, key, top, bottom), and (key, top, bottom).

    What is left is a dict of integers, times the quotient of top and bottom.
    """
    left, top, bottom = dict(inner[0]), 1, inner[1]
    waiting = [-key for key in left]
    heapify(waiting)
    terms, rest = [], []
    while waiting:
        key = -heappop(waiting)
        if key in left:
            found = first_lead(frame, dividers, key)
            if found is None:
                rest.append((key, left[key] * top, bottom))
                del left[key]
                continue
            index, head, numbers, factor = found
            terms.append((index, key - head, left[key] * top * factor[1], bottom * numbers[head] * factor[0]))
            left, up = taken_off(frame, left, waiting, key, found)
            if up != 1:
                bottom = bottom * up
                common = common_divisor(list(left.values()), 0)
                if common > 1:
                    left = {kept: part // common for kept, part in left.items()}
                    top = top * common
                common = gcd(top, bottom)
                top, bottom = top // common, bottom // common
    return (terms, rest)


def gathered(frame, terms):
    """The inner form of a list of terms (key, top, bottom) with unlike keys."""
    numbers, bottom = whole_row(frame.ground, [quotient(frame.ground, top, below) for _, top, below in terms])
    return ({key: number for (key, _, _), number in zip(terms, numbers)}, bottom)


def quotients_of(frame, terms, many):
    """The tuple of the inner quotients of a list of terms (index, key, top, bottom)."""
    lists = [[] for _ in range(many)]
    for index, key, top, bottom in terms:
        lists[index].append((key, top, bottom))
    return [gathered(frame, told) for told in lists]


def divided_by(frame, inner, rows):
    """The quotients and the rest of an inner form by others, as [10.3] tells it."""
    terms, rest = division_steps(frame, inner, dividers_of(frame, rows))
    return (quotients_of(frame, terms, len(rows)), gathered(frame, rest))


def rest_by(frame, inner, dividers):
    """The rest of an inner form by dividers."""
    return gathered(frame, division_steps(frame, inner, dividers)[1])


def number_inner(frame, number):
    """The inner form that a number of the ground is."""
    return nothing() if number == number_of(frame.ground, 0) else frame.opened({(0,) * frame.size: number})


def letter_key(size, index, exponent):
    """The key with the exponent at the letter with this index alone."""
    return tuple([exponent if at == index else 0 for at in range(size)])


def has_power(frame, keys, index):
    """Whether some of the packed keys has no letter but the one with this index."""
    return any([sum(key) == key[index] for key in [frame.unpacked(packed) for packed in keys]])


def is_finite(frame, keys):
    """Whether only finitely many keys are no multiples of these heads."""
    return all([has_power(frame, keys, index) for index in range(frame.size)])


def letters_of(frame):
    """The packed keys of the letters."""
    return [frame.packed(letter_key(frame.size, index, 1)) for index in range(frame.size)]


def standing_keys(frame, keys):
    """The packed keys that are no multiples of these heads, ascending; they are finitely many."""
    found = {}
    waiting = [0]
    while waiting:
        key = waiting.pop()
        if key not in found and not any([frame.leads(lower, key) for lower in keys]):
            found[key] = True
            waiting.extend([key + letter for letter in letters_of(frame)])
    return sorted(found)
