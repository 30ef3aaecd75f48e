"""What the tests share: odd values, reference checks of values, and the test of refusals."""
import unittest
from fractions import Fraction
from math import gcd

from zeroorone import errors

BIG = 10 ** 60 - 1
HALF, ONE, TWO, ZERO, LESS = (1, 2), (1, 1), (2, 1), (0, 1), (-1, 1)


def nested(make, depth):
    value = 1
    for _ in range(depth):
        value = make(value)
    return value


# Values of every kind that [0.4] names; each of them is invalid somewhere.
ODD = [
    None, True, False, "", "text", "a~" * 2000, -1, 0, 1, 2, 4, 7, 13, 10007, BIG, -BIG, BIG + 1, -BIG - 1, 10 ** 5000,
    (), (1,), (1, 2), (0, 1), (2, 4), (1, 0), (1, -1), (0, 5), (True, 1), (1, True), (1, None), ("1", 1), ((1,), 1),
    (BIG, 1), (1, BIG), (BIG + 1, 1), (1, BIG + 1), (1, 1, 1), [], [1, 2], [(1, 2)], {}, {(0,): 1}, {1: [2]}, {"a": ()},
    ((),), ((), ()), ((1,),), ((1, 2),), ((1, 2), (3,)), (((1, 1),),), [((1, 1),)], ([(1, 1)],), (((1, 1),), [(1, 1)]),
    (((1, 1),), ((1, 1), (1, 1))), ((True,),), ((None,),), (((True, 1),),), ((1, 0),), (((1, 0),),), ((0, 1),),
    nested(lambda x: (x,), 40), nested(lambda x: [x], 40), nested(lambda x: {1: x}, 40), nested(lambda x: (1, x), 40),
    errors.InvalidGround(4), errors.Refused(("flat",)), errors.PaperError("message"),
]


def is_integer(value, digits=60):
    return isinstance(value, int) and not isinstance(value, bool) and (digits is None or abs(value) < 10 ** digits)


def is_ground(value):
    return is_integer(value) and (value == 0 or 2 <= value < 10000 and all(value % k for k in range(2, value)))


def is_number(ground, value, digits=60):
    if ground:
        return is_integer(value) and 0 <= value < ground
    return (isinstance(value, tuple) and len(value) == 2 and all(is_integer(part, digits) for part in value)
            and value[1] >= 1 and gcd(*value) == 1)


def is_vector(ground, value, many, digits=60):
    return isinstance(value, tuple) and len(value) == many and all(is_number(ground, x, digits) for x in value)


def is_table(ground, value, rows=12, columns=12, digits=20):
    return (isinstance(value, tuple) and 1 <= len(value) <= rows
            and all(isinstance(row, tuple) and 1 <= len(row) <= columns for row in value)
            and len({len(row) for row in value}) == 1
            and all(is_number(ground, number, digits) for row in value for number in row))


def is_poly(ground, value, degree=12, digits=60):
    return (isinstance(value, tuple) and (degree is None or len(value) <= degree + 1)
            and all(is_number(ground, number, digits) for number in value)
            and (value == () or value[-1] not in (0, (0, 1))))


def read(ground, number):
    """What the tests reckon with: a Fraction, or an integer modulo the prime."""
    return number if ground else Fraction(*number)


def told(ground, value):
    """The number of the ground for a Fraction or an integer."""
    if ground:
        value = Fraction(value)
        return value.numerator * pow(value.denominator, -1, ground) % ground
    value = Fraction(value)
    return (value.numerator, value.denominator)


def same(ground, one, other):
    """Whether two reckoned values are the same number of the ground."""
    return (one - other) % ground == 0 if ground else one == other


def random_number(random, ground, size):
    if ground:
        return random.randrange(ground)
    return told(0, Fraction(random.randint(-size, size), random.choice((1, 1, 2, 3))))


class Case(unittest.TestCase):
    def refuses(self, error, call, *args):
        with self.assertRaises(error) as caught:
            call(*args)
        self.assertIs(type(caught.exception), error)
        return caught.exception

    def check_refusals(self, call, good, rules):
        """Each rule: the error, the attribute that keeps the value or None, and whether a value is right there.

        The first wrong argument is told, whatever stands behind it.
        """
        call(*good)
        for at, (error, kept, is_right) in enumerate(rules):
            tried = 0
            for value in ODD:
                if is_right(value):
                    continue
                tried += 1
                args = list(good)
                args[at] = value
                caught = self.refuses(error, call, *args)
                if kept is not None:
                    self.assertIs(getattr(caught, kept), value)
                args[at + 1:] = [{} for _ in args[at + 1:]]
                self.refuses(error, call, *args)
            self.assertGreater(tried, 10)


GROUND = (errors.InvalidGround, "value", is_ground)
INTEGER = (errors.InvalidNumber, "given", is_integer)


def number_rule(ground):
    return (errors.InvalidNumber, "given", lambda value: is_number(ground, value))


def between(low, high):
    return (errors.InvalidNumber, "given", lambda value: is_integer(value) and low <= value <= high)
