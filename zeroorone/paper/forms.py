"""Forms of any degree and length, without checks, with their keys packed into integers.

Inside, a form is a pair of a dict from packed keys to integers other than 0, and of one bottom for all of them. Over
the ground 0 the bottom is above 0 and has nothing in common with all integers at once; modulo a prime the bottom is 1,
and the integers are rests. Packed keys are compared as the order compares keys, and added as keys are added.
"""
from math import gcd

from zeroorone.paper.numbers import common_multiple, is_int, is_zero, number_fits, number_of, quotient, undone_modulo
from zeroorone.paper.numbers import whole_row

ORDERS = ("lex", "deg")
# Far more bits than the exponents need that are met on the way.
WIDTH = 40


def form_fits(ground, size, value, most, limit):
    """Whether the value is a form with a degree to `most`, and integers below the limit; None bars nothing."""
    if not isinstance(value, dict):
        return False
    for key, number in value.items():
        if not isinstance(key, tuple) or len(key) != size:
            return False
        if not all([is_int(exponent) and exponent >= 0 for exponent in key]):
            return False
        if most is not None and sum(key) > most:
            return False
        if not number_fits(ground, number, limit) or is_zero(ground, number):
            return False
    return True


def ordered(form):
    """The form with its keys ascending."""
    return {key: form[key] for key in sorted(form)}


def all_ordered(forms):
    """The tuple of forms with their keys ascending."""
    return tuple([ordered(form) for form in forms])


class Frame:
    """A ground, a number of letters and an order, and how keys are packed for them.

    The order "first" stands beside the two others here: it compares the first exponent, and then the others by "deg".
    """

    def __init__(self, ground, size, order, width=WIDTH):
        self.ground = ground
        self.size = size
        self.order = order
        self.width = width
        self.mask = (1 << width) - 1
        # One bit ahead of each exponent stays free, so that differences can be told.
        self.guards = sum([1 << (width * (field + 1) - 1) for field in range(size)])

    def packed(self, key):
        """The integer for a key."""
        number = sum(key) if self.order == "deg" else 0
        if self.order == "first":
            number = (key[0] << self.width) + sum(key[1:])
        for exponent in key:
            number = (number << self.width) + exponent
        return number

    def unpacked(self, number):
        """The key for an integer."""
        key = []
        for _ in range(self.size):
            key.append(number & self.mask)
            number = number >> self.width
        return tuple(reversed(key))

    def leads(self, lower, upper):
        """Whether the key of the second integer is a multiple of that of the first one."""
        return ((upper | self.guards) - lower) & self.guards == self.guards

    def opened(self, form):
        """The inner form of a form."""
        numbers, bottom = whole_row(self.ground, [form[key] for key in form])
        return ({self.packed(key): number for key, number in zip(form, numbers)}, bottom)

    def closed(self, inner):
        """The form of an inner form, its keys ascending."""
        numbers, bottom = inner
        return ordered({self.unpacked(key): quotient(self.ground, numbers[key], bottom) for key in numbers})

    def all_opened(self, forms):
        """The inner forms of forms."""
        return [self.opened(form) for form in forms]

    def all_closed(self, inners):
        """The tuple of the forms of inner forms."""
        return tuple([self.closed(inner) for inner in inners])


def nothing():
    """The inner form 0."""
    return ({}, 1)


def unit():
    """The inner form 1."""
    return ({0: 1}, 1)


def common_divisor(numbers, common):
    """The greatest common divisor of integers and of one more."""
    for number in numbers:
        if common == 1:
            return 1
        common = gcd(common, number)
    return common


def settled(frame, numbers, bottom):
    """The inner form of a dict of integers over a bottom other than 0 in the ground."""
    if frame.ground != 0:
        back = undone_modulo(bottom, frame.ground)
        rests = {key: numbers[key] * back % frame.ground for key in numbers}
        return ({key: rests[key] for key in rests if rests[key] != 0}, 1)
    common = common_divisor(list(numbers.values()), abs(bottom))
    if bottom < 0:
        common = -common
    return ({key: numbers[key] // common for key in numbers if numbers[key] != 0}, bottom // common)


def mixed(frame, one, other, sign):
    """The first inner form, and the second one times the sign put to it."""
    numbers, bottom = one
    further, below = other
    common = gcd(bottom, below)
    up, down = below // common, sign * (bottom // common)
    made = {key: up * numbers[key] for key in numbers}
    for key, number in further.items():
        made[key] = made.get(key, 0) + down * number
    return settled(frame, made, bottom * up)


def sum_of(frame, one, other):
    """The sum of two inner forms."""
    return mixed(frame, one, other, 1)


def difference_of(frame, one, other):
    """The difference of two inner forms."""
    return mixed(frame, one, other, -1)


def product_of(frame, one, other):
    """The product of two inner forms."""
    return sum_of_products(frame, [one], [other])


def power_of(frame, inner, many):
    """The power of an inner form, 1 for 0."""
    result = unit()
    for _ in range(many):
        result = product_of(frame, result, inner)
    return result


def scaled(frame, inner, top, bottom):
    """The inner form times the quotient of two integers, the second one not 0 in the ground."""
    numbers, below = inner
    return settled(frame, {key: top * numbers[key] for key in numbers}, below * bottom)


def raised(inner, key):
    """The inner form times the term with this key and the number 1."""
    return ({lower + key: number for lower, number in inner[0].items()}, inner[1])


def sum_of_products(frame, ones, others):
    """The sum of the products of the inner forms of two equally long lists."""
    pairs = [(one, other) for one, other in zip(ones, others) if one[0] and other[0]]
    bottom = common_multiple([one[1] * other[1] for one, other in pairs])
    made = {}
    for one, other in pairs:
        factor = bottom // (one[1] * other[1])
        for lower, number in one[0].items():
            times = number * factor
            for key, further in other[0].items():
                place = lower + key
                made[place] = made.get(place, 0) + times * further
    return settled(frame, made, bottom)


def head_of(inner):
    """The packed head of an inner form other than 0."""
    return max(inner[0])


def monic(frame, inner):
    """The inner form other than 0, divided by its head number."""
    return settled(frame, inner[0], inner[0][head_of(inner)])


def common_key(frame, one, other):
    """The common multiple of two packed keys."""
    return frame.packed(tuple([max(left, right) for left, right in zip(frame.unpacked(one), frame.unpacked(other))]))


def crossed_of(frame, one, other):
    """The crossed pair of two inner forms other than 0."""
    left, right = head_of(one), head_of(other)
    common = common_key(frame, left, right)
    # Both heads get the number 1, so they drop out.
    first, second = raised(monic(frame, one), common - left), raised(monic(frame, other), common - right)
    return difference_of(frame, first, second)


def number_inner(frame, number):
    """The inner form that a number of the ground is."""
    return nothing() if number == number_of(frame.ground, 0) else frame.opened({(0,) * frame.size: number})


def letter_key(size, index, exponent):
    """The key with the exponent at the letter with this index alone."""
    return tuple([exponent if at == index else 0 for at in range(size)])


def letters_of(frame):
    """The packed keys of the letters."""
    return [frame.packed(letter_key(frame.size, index, 1)) for index in range(frame.size)]


def put_inside(frame, form, inners):
    """The inner form that comes with inner forms put in for all letters of a form, one letter behind the other."""
    if not inners:
        return number_inner(frame, form[()])
    rows = {}
    for key in form:
        rows.setdefault(key[0], {})[key[1:]] = form[key]
    exponents = sorted(rows, reverse=True)
    result = nothing()
    for exponent, lower in zip(exponents, exponents[1:] + [0]):
        result = sum_of(frame, result, put_inside(frame, rows[exponent], inners[1:]))
        for _ in range(exponent - lower):
            result = product_of(frame, result, inners[0])
    return result


def degree_of_form(form):
    """The greatest sum of exponents in a key, -1 for 0."""
    return max([sum(key) for key in form], default=-1)
