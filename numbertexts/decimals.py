"""Decimals (d, q), which stand for d * 10 ** q."""

from numbertexts.bounds import MAX_DIGITS, MAX_POWER
from numbertexts.kinds import is_between
from numbertexts.powers import raised


def is_decimal(value):
    """Return whether the value is a decimal."""
    if not isinstance(value, tuple) or len(value) != 2:
        return False
    d, q = value
    return is_between(d, 0, raised(10, MAX_DIGITS) - 1) and is_between(q, -MAX_POWER, MAX_POWER)


def plain_decimal(decimal):
    """Return the plain decimal with the same value."""
    d, q = decimal
    if d == 0:
        return (0, 0)
    while d % 10 == 0:
        d = d // 10
        q = q + 1
    return (d, q)


def fraction_of(decimal):
    """Return (num, den) for the value of the decimal, not always in lowest terms."""
    d, q = decimal
    if q < 0:
        return d, raised(10, -q)
    return d * raised(10, q), 1


def compare(one, other):
    """Return -1, 0 or 1 if the value of one is less, equal or greater."""
    num, den = fraction_of(one)
    other_num, other_den = fraction_of(other)
    mine = num * other_den
    yours = other_num * den
    if mine == yours:
        return 0
    return -1 if mine < yours else 1
