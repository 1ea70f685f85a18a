"""Whole numbers and rows of them (point 1.1)."""

from math import gcd, isqrt

from gridmetric.errors import Refused


def is_integer(value):
    """Return True if value is an integer, and not True or False."""
    return isinstance(value, int) and not isinstance(value, bool)


def root_floor(n):
    """Return the greatest integer whose square is at most n."""
    if n < 0:
        raise Refused("negative")
    return isqrt(n)


def upper(a, b):
    """Return the least integer that is at least a / b, for b above 0."""
    return -(-a // b)


def lower(a, b):
    """Return the greatest integer that is at most a / b, for b above 0."""
    return a // b


def rounded(a, b):
    """Return a whole number that is nearest to a / b, for b above 0."""
    return lower(2 * a + b, 2 * b)


def cofactors(a, b):
    """Return (g, u, v) with the greatest common divisor g = u a + v b."""
    # b comes first, so that u is 1 or -1 and v is 0 where a divides b.
    last, last_u, last_v = abs(b), 0, 1
    g, u, v = abs(a), 1, 0
    while g:
        times = last // g
        last, g = g, last - times * g
        last_u, u = u, last_u - times * u
        last_v, v = v, last_v - times * v
    return last, -last_u if a < 0 else last_u, -last_v if b < 0 else last_v


def content(numbers):
    """Return the greatest common divisor of all numbers, 0 if all are 0."""
    common = 0
    for number in numbers:
        common = gcd(common, number)
    return common


def lowest(p, q):
    """Return the fraction p / q in lowest terms, for q above 0."""
    common = gcd(p, q)
    return p // common, q // common


def dot(a, b):
    """Return the product of two rows of one length."""
    return sum([x * y for x, y in zip(a, b)])


def divisors(n):
    """Return the positive divisors of n, for n from 1 on, ascending."""
    found = [1]
    prime = 2
    while prime * prime <= n:
        many = 0
        while n % prime == 0:
            n = n // prime
            many += 1
        if many > 0:
            found = with_powers(found, prime, many)
        prime += 1 if prime == 2 else 2
    if n > 1:
        found = with_powers(found, n, 1)
    return tuple(sorted(found))


def with_powers(numbers, prime, many):
    """Return all products of the numbers and the powers of prime up to many."""
    found = list(numbers)
    layer = numbers
    for _ in range(many):
        layer = [number * prime for number in layer]
        found = found + layer
    return found
