"""The positions of real numbers among the numbers of a format, and reading by the ways."""

from math import gcd

from numbertexts.decimals import fraction_of
from numbertexts.formats import count_of
from numbertexts.powers import log_of

WAYS = ("even", "away", "zero", "out", "odd")


def is_way(value):
    """Return whether the value is a way."""
    return value in WAYS


def exponent_at(form, num, den):
    """Return the exponent by which num / den is measured in the format."""
    p, low, high = form
    if num == 0:
        return low
    return max(low, min(high, log_of(num, den) - p + 1))


def rough_position(form, num, den):
    """Return the position of num / den as (n, d), not always in lowest terms."""
    p, low, _ = form
    e = exponent_at(form, num, den)
    if e >= 0:
        den = den << e
    else:
        num = num << -e
    return num + ((e - low) << (p - 1)) * den, den


def position(form, num, den):
    """Return the position of num / den as (n, d) in lowest terms."""
    n, d = rough_position(form, num, den)
    common = gcd(n, d)
    return n // common, d // common


def rounded_by(way, n, d):
    """Return the integer to which n / d is rounded by the way."""
    whole = n // d
    rest = n % d
    if rest == 0 or way == "zero":
        return whole
    if way == "out":
        return whole + 1
    if way == "odd":
        return whole | 1
    if 2 * rest == d:
        return whole + 1 if way == "away" else whole + whole % 2
    return whole + 1 if 2 * rest > d else whole


def greatest_read(form, way):
    """Return the code as which all that is far above the greatest number is read."""
    beyond = count_of(form)
    if way == "zero":
        return beyond - 1
    if way == "odd":
        return (beyond - 1) | 1
    return beyond


def read_fraction(form, way, num, den):
    """Return the code as which num / den is read by the way."""
    n, d = rough_position(form, num, den)
    return min(rounded_by(way, n, d), greatest_read(form, way))


def read(form, way, decimal):
    """Return the code as which the decimal is read by the way."""
    num, den = fraction_of(decimal)
    return read_fraction(form, way, num, den)


def around(form, decimal):
    """Return the codes of the nearest numbers that are not above and not below the decimal."""
    num, den = fraction_of(decimal)
    return read_fraction(form, "zero", num, den), read_fraction(form, "out", num, den)
