"""The claims and papers about integers, primes and tables of integers (stages 1, 2 and 4)."""
from itertools import combinations

from zeroorone.paper.numbers import are_indices, are_integers, ascend, dot, integer_dot, is_between, is_int, is_row
from zeroorone.paper.numbers import power_modulo, vector_fits
from zeroorone.paper.tables import rows_fit, turned

MOST_SIDE = 6


def divisor_fits(one, other, common):
    """Whether the claim about a common divisor is well made."""
    return is_int(one) and is_int(other) and is_between(common, 0, None)


def shows_divisor(paper, one, other, common):
    """Whether the divisor is a sum of multiples of both, and divides both."""
    if not are_integers(paper, 4):
        return False
    u, v, share, further = paper
    return u * one + v * other == common and share * common == one and further * common == other


def rests_fit(pairs):
    """Whether the claim about rests is well made."""
    if not isinstance(pairs, tuple) or len(pairs) < 1:
        return False
    return all([are_integers(pair, 2) and pair[0] >= 1 for pair in pairs])


def shows_rests(paper, pairs):
    """Whether the integer has all the rests."""
    return is_int(paper) and all([(paper - rest) % modulus == 0 for modulus, rest in pairs])


def shows_no_rests(paper, pairs):
    """Whether two of the pairs disagree modulo a common divisor."""
    if not are_integers(paper, 3):
        return False
    i, j, common = paper
    if not 0 <= i < j < len(pairs) or common < 1:
        return False
    one, other = pairs[i], pairs[j]
    if one[0] % common != 0 or other[0] % common != 0:
        return False
    return (one[1] - other[1]) % common != 0


def prime_claim_fits(number):
    """Whether the claim that an integer is a prime, or split, is well made."""
    return is_between(number, 2, None)


def shows_split(paper, number):
    """Whether two integers above 1 have the number as their product."""
    return are_integers(paper, 2) and min(paper) >= 2 and paper[0] * paper[1] == number


def is_power_product(pairs, number):
    """Whether the product of the powers of integers of at least 2, with exponents of at least 1, is the number."""
    left = number
    for base, exponent in pairs:
        often = 0
        while often < exponent and left % base == 0:
            left = left // base
            often += 1
        if often < exponent:
            return False
    return left == 1


def row_makes(row, known):
    """Whether a row (q, maker, parts) shows q to be a prime, the known primes being shown."""
    prime, maker, parts = row
    if not all([pair[0] in known for pair in parts]) or not is_power_product(parts, prime - 1):
        return False
    if not 1 <= maker < prime or power_modulo(maker, prime - 1, prime) != 1:
        return False
    return all([power_modulo(maker, (prime - 1) // part, prime) != 1 for part, _ in parts])


def exponents_fit(value):
    """Whether the value is a tuple of pairs of integers, the first ones ascending, the others being at least 1."""
    if not isinstance(value, tuple) or not all([are_integers(pair, 2) and pair[1] >= 1 for pair in value]):
        return False
    return ascend([pair[0] for pair in value])


def row_fits(row):
    """Whether the value is a triple of two integers and of pairs of integers."""
    return is_row(row, 3) and are_integers(row[:2], 2) and row[0] > 2 and exponents_fit(row[2])


def shows_prime(paper, number):
    """Whether rows show one prime after the other, the number last."""
    if number == 2:
        return is_row(paper, 0)
    if not isinstance(paper, tuple) or not all([row_fits(row) for row in paper]):
        return False
    primes = [row[0] for row in paper]
    if len(primes) == 0 or primes[-1] != number or not ascend(primes):
        return False
    known = {2: True}
    for row in paper:
        if not row_makes(row, known):
            return False
        known[row[0]] = True
    return True


def power_product(pairs, most):
    """The product of the powers, as far as its size is at most so much; otherwise some integer above it in size."""
    result = 1
    for base, exponent in pairs:
        if base in (-1, 0, 1):
            result = result * base if exponent % 2 == 1 else result * base * base
        else:
            often = 0
            while often < exponent and abs(result) <= most:
                result = result * base
                often += 1
    return result


def prime_parts_fit(number, parts):
    """Whether the claim about prime parts is well made."""
    if not is_between(number, 1, None) or not exponents_fit(parts):
        return False
    if number == 1:
        return len(parts) == 0
    # A part 0 would make the product 0, whatever comes later.
    return all([base != 0 for base, _ in parts]) and power_product(parts, number) == number


def shows_prime_parts(paper, number, parts):
    """Whether there is a paper for each of the primes."""
    if not is_row(paper, len(parts)):
        return False
    return all([prime_claim_fits(base) and shows_prime(shown, base) for shown, (base, _) in zip(paper, parts)])


def whole_table_fits(table):
    """Whether the value is a table of integers."""
    return rows_fit(table, None, None) and all([are_integers(row, len(row)) for row in table])


def whole_fits(table, vector):
    """Whether the claim about whole solutions is well made."""
    return whole_table_fits(table) and are_integers(vector, len(table))


def shows_whole(paper, table, vector):
    """Whether the integers solve the equations."""
    if not are_integers(paper, len(table[0])):
        return False
    return all([integer_dot(row, paper) == number for row, number in zip(table, vector)])


def fractions_of(integers):
    """The integers, as fractions."""
    return tuple([(number, 1) for number in integers])


def shows_never_whole(paper, table, vector):
    """Whether the rows, so many times, come to something whole, and what they are to be does not."""
    if not vector_fits(0, paper, len(table), None):
        return False
    sums = [dot(0, paper, fractions_of(column)) for column in turned(table)]
    return all([bottom == 1 for _, bottom in sums]) and dot(0, paper, fractions_of(vector))[1] != 1


def find_first(row):
    """The index of the first number other than 0; the length of the row if there is none."""
    for index, number in enumerate(row):
        if number != 0:
            return index
    return len(row)


def rows_are_stairs(value):
    """Whether the value is stairs, of any size and with integers of any length."""
    if is_row(value, 0):
        return True
    if not whole_table_fits(value):
        return False
    before = -1
    for index, row in enumerate(value):
        lead = find_first(row)
        if lead <= before or lead == len(row) or row[lead] < 0:
            return False
        if not all([0 <= upper[lead] < row[lead] for upper in value[:index]]):
            return False
        before = lead
    return True


def stairs_fit(table, rows):
    """Whether the claim about stairs is well made."""
    if not whole_table_fits(table) or not rows_are_stairs(rows):
        return False
    return len(rows) == 0 or len(rows[0]) == len(table[0])


def makes_rows(sums, rows, wanted, width):
    """Whether for each wanted row there are integers with which the rows add up to it."""
    if not is_row(sums, len(wanted)) or not all([are_integers(row, len(rows)) for row in sums]):
        return False
    columns = [[row[column] for row in rows] for column in range(width)]
    return all([
        all([integer_dot(row, column) == number for column, number in zip(columns, goal)])
        for row, goal in zip(sums, wanted)
    ])


def shows_stairs(paper, table, rows):
    """Whether the stairs and the rows of the table make one another."""
    if not is_row(paper, 2):
        return False
    width = len(table[0])
    return makes_rows(paper[0], table, rows, width) and makes_rows(paper[1], rows, table, width)


def steps_fit(table, steps):
    """Whether the claim about steps is well made."""
    if not whole_table_fits(table) or len(table) > MOST_SIDE or len(table[0]) > MOST_SIDE:
        return False
    return isinstance(steps, tuple) and all([is_between(step, 1, None) for step in steps])


def parts_of_size(table, size, parts):
    """The determinants of all parts with `size` rows and columns, by these, from those of the size before."""
    found = {}
    for rows in combinations(range(len(table)), size):
        for columns in combinations(range(len(table[0])), size):
            total, sign = 0, 1
            for j in range(size):
                total += sign * table[rows[0]][columns[j]] * parts[(rows[1:], columns[:j] + columns[j + 1:])]
                sign = -sign
            found[(rows, columns)] = total
    return found


def weights_fit(value, size, table):
    """Whether the value is a tuple of triples of rows, columns and a weight, for parts with `size` rows."""
    if not isinstance(value, tuple):
        return False
    return all([
        is_row(triple, 3) and are_indices(triple[0], size, len(table)) and are_indices(triple[1], size, len(table[0]))
        and is_int(triple[2]) for triple in value
    ])


def shows_steps(paper, table, steps):
    """Whether the product of the first steps divides all determinants of their size, and is a sum of multiples."""
    if not is_row(paper, len(steps)):
        return False
    parts = {((), ()): 1}
    product = 1
    for at, (triples, step) in enumerate(zip(paper, steps)):
        if not weights_fit(triples, at + 1, table):
            return False
        parts = parts_of_size(table, at + 1, parts)
        product = product * step
        if sum([parts[(rows, columns)] * weight for rows, columns, weight in triples]) != product:
            return False
        if any([value % product != 0 for value in list(parts.values())]):
            return False
    return not any(list(parts_of_size(table, len(steps) + 1, parts).values()))


WHOLE_KINDS = {
    "divisor": (3, divisor_fits, shows_divisor),
    "rests": (1, rests_fit, shows_rests),
    "no rests": (1, rests_fit, shows_no_rests),
    "prime": (1, prime_claim_fits, shows_prime),
    "split": (1, prime_claim_fits, shows_split),
    "prime parts": (2, prime_parts_fit, shows_prime_parts),
    "whole": (2, whole_fits, shows_whole),
    "never whole": (2, whole_fits, shows_never_whole),
    "stairs": (2, stairs_fit, shows_stairs),
    "steps": (2, steps_fit, shows_steps),
}
