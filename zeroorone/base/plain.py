"""The checks that all stages share, and what numbers need beside them."""
from zeroorone.errors import InvalidGround, InvalidNumber
from zeroorone.paper.numbers import ground_fits, is_below, is_int, number_fits, opposite, quotient

# Integers that are passed stay below it in size: they have at most sixty digits.
SIXTY_DIGITS = 10 ** 60


def least_divisor(number):
    """The least divisor above 1 of an integer of at least 2."""
    if number % 2 == 0:
        return 2
    divisor = 3
    while divisor * divisor <= number:
        if number % divisor == 0:
            return divisor
        divisor += 2
    return number


def check_ground(ground):
    """Refuse what is no ground."""
    if not ground_fits(ground):
        raise InvalidGround(ground)


def check_prime_ground(ground):
    """Refuse what is no ground other than 0."""
    if not ground_fits(ground) or ground == 0:
        raise InvalidGround(ground)


def check_number(ground, number):
    """Refuse what is no number of the ground with at most sixty digits."""
    if not number_fits(ground, number, SIXTY_DIGITS):
        raise InvalidNumber(number)


def check_integer(number):
    """Refuse what is no integer of at most sixty digits."""
    if not is_below(number, SIXTY_DIGITS):
        raise InvalidNumber(number)


def check_between(number, low, high):
    """Refuse what is no integer from low to high."""
    if not is_int(number) or number < low or number > high:
        raise InvalidNumber(number)


def plus(ground, one, other):
    """The sum of two numbers."""
    if ground != 0:
        return (one + other) % ground
    return quotient(0, one[0] * other[1] + other[0] * one[1], one[1] * other[1])


def minus(ground, one, other):
    """The difference of two numbers."""
    return plus(ground, one, opposite(ground, other))


def over(ground, one, other):
    """The quotient of two numbers, the second one not 0."""
    if ground != 0:
        return quotient(ground, one, other)
    return quotient(0, one[0] * other[1], one[1] * other[0])
