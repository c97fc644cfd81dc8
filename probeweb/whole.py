"""Whole numbers and fractions (point 1.1)."""

from math import gcd, lcm

from probeweb.errors import Malformed, NoText

# Python itself reads and writes at most 4300 digits at once.
CHUNK = 2000


def is_integer(value):
    """True for an integer that is not True or False."""
    return type(value) == int


def is_number_from(value, least):
    """True for an integer that is not below the least one."""
    return is_integer(value) and value >= least


def check_modulus(value):
    """None for an integer from 1 on."""
    if not is_number_from(value, 1):
        raise Malformed("no modulus")


def read_integer(text):
    """The integer with this written form."""
    if not isinstance(text, str):
        raise NoText(0)
    digits = text[1:] if text.startswith("-") else text
    if not (digits.isascii() and digits.isdigit()):
        raise NoText(0)
    if digits.startswith("0") and text != "0":
        raise NoText(0)
    size = _size_of(digits)
    return -size if text.startswith("-") else size


def _size_of(digits):
    """The number that the digits tell, read in chunks."""
    first = len(digits) % CHUNK
    step = raised_to(10, CHUNK)
    size = int(digits[:first]) if first > 0 else 0
    for at in range(first, len(digits), CHUNK):
        size = size * step + int(digits[at:at + CHUNK])
    return size


def integer_text(n):
    """The written form of an integer, made in chunks."""
    step = raised_to(10, CHUNK)
    size = abs(n)
    parts = []
    while size >= step:
        size, low = divmod(size, step)
        parts.append(str(low).zfill(CHUNK))
    parts.append(str(size))
    if n < 0:
        parts.append("-")
    return "".join(parts[::-1])


def raised_to(a, e):
    """The power of an integer, by squaring; `e` is from 0 on."""
    power = 1
    square = a
    while e > 0:
        if e & 1 == 1:
            power = power * square
        e = e >> 1
        if e > 0:
            square = square * square
    return power


def rest_of_power(a, e, modulus):
    """The rest of the power modulo an integer from 1 on."""
    power = 1 % modulus
    square = a % modulus
    while e > 0:
        if e & 1 == 1:
            power = power * square % modulus
        e = e >> 1
        square = square * square % modulus
    return power


def falling_number(n, k):
    """The number of ways to choose `k` unlike ones of `n` things, in order."""
    number = 1
    for j in range(k):
        number = number * (n - j)
    return number


def greatest_common(a, b):
    """The greatest common divisor, 0 if both are 0."""
    return gcd(a, b)


def least_common(a, b):
    """The least common multiple of two integers other than 0."""
    return lcm(a, b)


def ratio(n, d):
    """The fraction `n / d`."""
    if not (is_integer(n) and is_integer(d)) or d == 0:
        raise Malformed("no fraction")
    common = gcd(n, d) if d > 0 else -gcd(n, d)
    return n // common, d // common


def is_ratio(value):
    """True for a pair that is a fraction."""
    if not (isinstance(value, tuple) and len(value) == 2):
        return False
    n, d = value
    if not (is_integer(n) and is_integer(d)):
        return False
    return d >= 1 and gcd(n, d) == 1


def ratio_sum(a, b):
    """The sum of two fractions."""
    return ratio(a[0] * b[1] + b[0] * a[1], a[1] * b[1])


def ratio_less(a, b):
    """The difference of two fractions."""
    return ratio(a[0] * b[1] - b[0] * a[1], a[1] * b[1])


def ratio_product(a, b):
    """The product of two fractions."""
    return ratio(a[0] * b[0], a[1] * b[1])


def ratio_over(a, b):
    """The quotient of two fractions."""
    return ratio(a[0] * b[1], a[1] * b[0])


def ratio_text(a):
    """The written form of a fraction."""
    if a[1] == 1:
        return integer_text(a[0])
    return integer_text(a[0]) + "/" + integer_text(a[1])


def ratio_below(a, b):
    """True if the first fraction is less than the second one."""
    return a[0] * b[1] < b[0] * a[1]
