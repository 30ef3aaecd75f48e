"""Claims over the fractions, led modulo a prime, and claims about all primes but told ones (stage 17)."""
from zeroorone.base.plain import SIXTY_DIGITS, check_between, check_prime_ground
from zeroorone.errors import InvalidClaim, InvalidOperation
from zeroorone.paper.every import SHAPES, bottoms_of_claim, bottoms_of_paper, can_be_led, parts_of, shows_led
from zeroorone.paper.numbers import LAST_GROUND, common_multiple, has_no_parts, quotient
from zeroorone.paper.polys import without_zeros
from zeroorone.paper.values import copied


def every_kinds():
    """The ascending tuple of the kinds that can be led."""
    return tuple(sorted(SHAPES))


def check_claim(claim):
    """Refuse what is no claim that can be led."""
    if not can_be_led(claim):
        raise InvalidClaim("no claim over the fractions that can be led")


def check_bottoms(bottoms, prime):
    """Refuse bottoms of which the prime divides one."""
    if any([bottom % prime == 0 for bottom in bottoms]):
        raise InvalidOperation("the prime divides a bottom")


def check_paper(claim, paper):
    """Refuse what is no paper for a claim that can be led."""
    if not shows_led(paper, claim):
        raise InvalidOperation("no paper for the claim")


def led_value(shape, value, prime):
    """The value of a shape, read modulo a prime that divides none of its bottoms."""
    if shape == "keep":
        return value
    if shape in ("vector", "poly"):
        numbers = tuple([quotient(prime, top, bottom) for top, bottom in value])
        return numbers if shape == "vector" else without_zeros(numbers)
    if shape == "form":
        numbers = {key: quotient(prime, value[key][0], value[key][1]) for key in sorted(value)}
        return {key: number for key, number in numbers.items() if number != 0}
    return tuple([led_value(lower, member, prime) for lower, member in parts_of(shape, value)])


def led(claim, prime):
    """The claim, led modulo the prime."""
    check_claim(claim)
    check_prime_ground(prime)
    check_bottoms(bottoms_of_claim(claim), prime)
    return (claim[0], prime) + led_value(SHAPES[claim[0]][0], claim[2:], prime)


def led_paper(claim, paper, prime):
    """The paper for the claim, led modulo the prime."""
    check_claim(claim)
    check_prime_ground(prime)
    check_paper(claim, paper)
    check_bottoms(bottoms_of_claim(claim) + bottoms_of_paper(claim, paper), prime)
    return led_value(SHAPES[claim[0]][1], paper, prime)


def least_number(claim, paper):
    """The least integer from 1 on that all bottoms of a claim and of a paper for it divide."""
    return common_multiple(bottoms_of_claim(claim) + bottoms_of_paper(claim, paper))


def but_number(claim, paper):
    """The least integer from 1 on that all bottoms divide."""
    check_claim(claim)
    check_paper(claim, paper)
    return least_number(claim, paper)


def every_answer(claim, paper):
    """The claim that a claim holds modulo all primes that do not divide the number, and the paper."""
    check_claim(claim)
    check_paper(claim, paper)
    return (("all primes but", copied(claim), least_number(claim, paper)), copied(paper))


def left_out_primes(number):
    """The ascending primes below 10,000 that divide the number."""
    check_between(number, 1, SIXTY_DIGITS - 1)
    return tuple([prime for prime in range(2, LAST_GROUND + 1) if number % prime == 0 and has_no_parts(prime)])
