"""Texts of integers and plain values, of any length, and how they are read, without checks (stage 20).

What reads returns a pair of what was read and of the place behind it, None if nothing can be read there.
"""
from zeroorone.paper.numbers import integer_power, is_int

CHUNK = 64
LEAST_LONG = 10 ** 64
MOST_LETTERS = 4000
MOST_DEPTH = 30
WORDS = (("none", None), ("yes", True), ("no", False))


def padded(number, level, powers):
    """The digits of a number from 0 on below the power of this level, with zeros ahead, so many as that has."""
    if level == 0:
        return str(number).zfill(CHUNK)
    high, low = divmod(number, powers[level - 1])
    return padded(high, level - 1, powers) + padded(low, level - 1, powers)


def digits(number):
    """The digits of an integer; Python itself writes only those that are not too long."""
    if number < 0:
        return "-" + digits(-number)
    powers = [LEAST_LONG]
    while number >= powers[-1]:
        powers.append(powers[-1] * powers[-1])
    return padded(number, len(powers) - 1, powers).lstrip("0") or "0"


def are_digits(text):
    """Whether a string is made of digits, with no 0 ahead of others."""
    if len(text) == 0 or not all(["0" <= letter <= "9" for letter in text]):
        return False
    return len(text) == 1 or text[0] != "0"


def integer_of(text):
    """The integer from 0 on with these digits."""
    if len(text) <= CHUNK:
        return int(text)
    half = len(text) // 2
    return integer_of(text[:half]) * integer_power(10, len(text) - half) + integer_of(text[half:])


def is_plain_text(value):
    """Whether the value is a string of letters and blanks, not too long."""
    if not isinstance(value, str) or len(value) > MOST_LETTERS:
        return False
    return all(["a" <= letter <= "z" or letter == " " for letter in value])


def is_key(value):
    """Whether the value is a tuple of integers."""
    return isinstance(value, tuple) and all([is_int(part) for part in value])


def is_plain(value, depth):
    """Whether the value is plain, and nested at most so deep."""
    if isinstance(value, tuple):
        return depth > 0 and all([is_plain(member, depth - 1) for member in value])
    if isinstance(value, dict):
        return depth > 0 and all([is_key(key) and is_plain(value[key], depth - 1) for key in value])
    return value is None or isinstance(value, int) or is_plain_text(value)


def text_of(value):
    """The text of a plain value."""
    if isinstance(value, tuple):
        return "(" + " ".join([text_of(member) for member in value]) + ")"
    if isinstance(value, dict):
        return "{" + " ".join([text_of(key) + ":" + text_of(value[key]) for key in sorted(value)]) + "}"
    if is_int(value):
        return digits(value)
    if isinstance(value, str):
        return '"' + value + '"'
    if value is None:
        return "none"
    return "yes" if value else "no"


def read_integer(text, at):
    """Read an integer."""
    start = at + 1 if text[at:at + 1] == "-" else at
    end = start
    while "0" <= text[end:end + 1] <= "9":
        end += 1
    if not are_digits(text[start:end]):
        return None
    number = integer_of(text[start:end])
    if start == at:
        return (number, end)
    return (-number, end) if number != 0 else None


def read_string(text, at):
    """Read a string in double quotes."""
    end = text.find('"', at + 1)
    if end == -1 or not is_plain_text(text[at + 1:end]):
        return None
    return (text[at + 1:end], end + 1)


def read_word(text, at):
    """Read one of the words for None, True and False."""
    for word, meaning in WORDS:
        if text[at:at + len(word)] == word:
            return (meaning, at + len(word))
    return None


def read_tuple(text, at, depth):
    """Read a tuple whose members are nested at most so deep."""
    members = []
    at += 1
    if text[at:at + 1] == ")":
        return ((), at + 1)
    while True:
        found = read_at(text, at, depth)
        if found is None:
            return None
        members.append(found[0])
        at = found[1] + 1
        sign = text[at - 1:at]
        if sign == ")":
            return (tuple(members), at)
        if sign != " ":
            return None


def read_key(text, at, before):
    """Read a key of a dict, which comes behind another one if that is not None, and the sign behind it."""
    if text[at:at + 1] != "(":
        return None
    found = read_tuple(text, at, 0)
    if found is None or not is_key(found[0]) or text[found[1]:found[1] + 1] != ":":
        return None
    if before is not None and found[0] <= before:
        return None
    return (found[0], found[1] + 1)


def read_dict(text, at, depth):
    """Read a dict whose values are nested at most so deep."""
    made, before = {}, None
    at += 1
    if text[at:at + 1] == "}":
        return ({}, at + 1)
    while True:
        key = read_key(text, at, before)
        if key is None:
            return None
        before = key[0]
        found = read_at(text, key[1], depth)
        if found is None:
            return None
        made[before] = found[0]
        at = found[1] + 1
        sign = text[at - 1:at]
        if sign == "}":
            return (made, at)
        if sign != " ":
            return None


def read_at(text, at, depth):
    """Read a value, nested at most so deep."""
    sign = text[at:at + 1]
    if sign == "(":
        return read_tuple(text, at, depth - 1) if depth > 0 else None
    if sign == "{":
        return read_dict(text, at, depth - 1) if depth > 0 else None
    if sign == '"':
        return read_string(text, at)
    if sign == "-" or "0" <= sign <= "9":
        return read_integer(text, at)
    return read_word(text, at)
