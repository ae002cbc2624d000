"""The multiples of factors: runs of numbers in which they keep their exponents, and lines for their codes.

A factor is a tuple (num, den, k) and stands for num / den * 2 ** k, with odd num and den that have no common divisor.
"""

from numbertexts.powers import log_of, raised, shifted
from numbertexts.ranges import odd_parts


def power_factor(power):
    """Return the factor that is 10 ** power."""
    if power < 0:
        return 1, raised(5, -power), power
    return raised(5, power), 1, power


def row_factor(g, s):
    """Return the factor that is g * 2 ** s."""
    odd, k = odd_parts(g, s)
    return odd, 1, k


def is_below(one, other):
    """Return whether the factor one is less than the factor other."""
    num, den, k = one
    other_num, other_den, other_k = other
    up, down = shifted(num * other_den, k - other_k)
    return up < other_num * den * down


def exponent_of(form, factor, number):
    """Return the exponent by which number * factor is measured in the format."""
    p, low, high = form
    num, den, k = factor
    return max(low, min(high, log_of(number * num, den) + k - p + 1))


def least_reaching(factor, t):
    """Return the least number for which number * factor is at least 2 ** t."""
    num, den, k = factor
    up, down = shifted(den, t - k)
    return -(-up // (num * down))


def first_with(form, factor, exponent):
    """Return the least number from 1 on for which number * factor has an exponent from this one on."""
    p, low, _ = form
    return 1 if exponent == low else least_reaching(factor, p + exponent - 1)


def rising_runs(form, factors, limit):
    """Yield (start, stop, exponents) in ascending order: with each factor these numbers below the limit keep theirs."""
    p, _, high = form
    start = 1
    while start < limit:
        exponents = [exponent_of(form, factor, start) for factor in factors]
        stop = limit
        for factor, exponent in zip(factors, exponents):
            if exponent < high:
                stop = min(stop, least_reaching(factor, p + exponent))
        yield start, stop, exponents
        start = stop


def falling_runs(form, factors, limit):
    """Yield the runs (start, stop, exponents) of the numbers below the limit in descending order."""
    stop = limit
    while stop > 1:
        exponents = [exponent_of(form, factor, stop - 1) for factor in factors]
        start = max([first_with(form, factor, exponent) for factor, exponent in zip(factors, exponents)])
        yield start, stop, exponents
        stop = start


def position_line(form, factor, exponent):
    """Return (u, v, w): the position of number * factor is (u * number + v) / w while it has this exponent."""
    p, low, _ = form
    num, den, k = factor
    if k < exponent:
        den = den << (exponent - k)
    else:
        num = num << (k - exponent)
    return num, ((exponent - low) << (p - 1)) * den, den
