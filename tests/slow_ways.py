"""Slow and plain reckoning that the tests hold against the program."""

import functools
from fractions import Fraction

HALF = Fraction(1, 2)

SMALL_FORMATS = (
    (3, -2, 2), (2, -4, -1), (2, 0, 0), (4, -1, 1), (1, 0, 0), (1, -1, 0), (1, -2, 3), (1, 3, 7), (5, -9, -7),
)

WAYS = ("even", "away", "zero", "out", "odd")


def nested(value, levels):
    for level in range(levels):
        value = (value,) if level % 2 == 0 else [value]
    return value


def any_values():
    """Values of every kind that point 3 allows."""
    return [
        None, True, False, 0, 1, -1, 7, 10 ** 1499, -10 ** 1499, "", "a", "even", "Even", "binary16", "x" * 3000,
        "a\nb", (), (1,), (3, -2, 2), (1, 2, 3, 4), ((8, 3, 1, 4, 20),), [], [3, -2, 2], [5, 0], [None], {}, {"a": 1},
        {"binary16": (11, -24, 5)}, ({"a": [1]},), ("even",), nested(1, 20), list(range(2000)),
    ]


def wrong_indexes(many):
    """Values of every kind that are not an index where so many are counted."""
    return [many, many + 1, -1, -many - 1, 10 ** 1499, *(value for value in any_values() if not type(value) is int)]


def power(base, exponent):
    return Fraction(base) ** exponent


def worth(decimal):
    d, q = decimal
    return d * power(10, q)


@functools.lru_cache(maxsize=None)
def numbers_of(form):
    """The values of all numbers of the format, in ascending order, by the words of point 10."""
    p, low, high = form
    found = set()
    for e in range(low, high + 1):
        for m in range(2 ** p):
            if e == low or m >= 2 ** (p - 1):
                found.add(m * power(2, e))
    return tuple(sorted(found))


def real_at(form, place):
    """The real number with this position, a fraction from 0 on; beyond the greatest number it goes on evenly."""
    numbers = numbers_of(form)
    code = min(place.numerator // place.denominator, len(numbers) - 1)
    step = power(2, form[2])
    if code + 1 < len(numbers):
        step = numbers[code + 1] - numbers[code]
    return numbers[code] + (place - code) * step


def position_by_words(form, x):
    """The position of a fraction by the words of point 12."""
    p, low, high = form
    if x < power(2, p + low):
        e = low
    elif x >= power(2, p + high):
        e = high
    else:
        (e,) = [e for e in range(low, high + 1) if power(2, p - 1) <= x / power(2, e) < power(2, p)]
    return (e - low) * 2 ** (p - 1) + x / power(2, e)


def decimal_of(real):
    """The decimal with just the value of a fraction whose denominator divides a power of ten."""
    q = 0
    while real.denominator != 1:
        real = real * 10
        q -= 1
    return (real.numerator, q)


@functools.lru_cache(maxsize=None)
def range_by_words(way, code, beyond):
    """(lower, has_lower, upper, has_upper) as positions by the words of point 14; None if the range is empty."""
    last = {"zero": beyond - 1, "odd": beyond - 1 if beyond % 2 == 0 else beyond}.get(way, beyond)
    if code > last:
        return None
    even = code % 2 == 0
    lower, has_lower, upper, has_upper = {
        "even": (code - HALF, even, code + HALF, even),
        "away": (code - HALF, True, code + HALF, False),
        "zero": (code, True, code + 1, False),
        "out": (code - 1, False, code, True),
        "odd": (code, True, code, True) if even else (code - 1, False, code + 1, False),
    }[way]
    if lower < 0:
        lower, has_lower = 0, True
    if code == last:
        upper, has_upper = None, False
    return Fraction(lower), has_lower, upper, has_upper


def lies_in(place, span):
    """Whether the position lies in the range, told by positions."""
    if span is None:
        return False
    lower, has_lower, upper, has_upper = span
    if place < lower or place == lower and not has_lower:
        return False
    return upper is None or place < upper or place == upper and has_upper


def code_by_words(way, place, beyond, least=0, greatest=None):
    """The one code, of all or of those from least to greatest, in whose range the position lies."""
    greatest = beyond if greatest is None else greatest
    codes = [code for code in range(least, greatest + 1) if lies_in(place, range_by_words(way, code, beyond))]
    if len(codes) != 1:
        raise AssertionError((way, place, beyond, codes))
    return codes[0]


def read_by_words(form, way, real):
    """The code as which a fraction is read."""
    place = position_by_words(form, real)
    beyond = len(numbers_of(form))
    whole = min(place.numerator // place.denominator, beyond)
    # No range goes further than 1 from its code, but that of the last code, which is beyond or the one ahead of it.
    return code_by_words(way, place, beyond, max(whole - 2, 0), min(whole + 3, beyond))


def real_range(form, way, code):
    """The range of the code as (lower, has_lower, upper, has_upper) with real numbers, or None."""
    told = range_by_words(way, code, len(numbers_of(form)))
    if told is None:
        return None
    lower, has_lower, upper, has_upper = told
    return real_at(form, lower), has_lower, None if upper is None else real_at(form, upper), has_upper


def decade_by_trying(real):
    """The t for which the fraction, which is above 0, is at least 10 ** t and less than 10 ** (t + 1)."""
    t = len(str(real.numerator)) - len(str(real.denominator))
    while real >= power(10, t + 1):
        t += 1
    while real < power(10, t):
        t -= 1
    return t


def nearest_even(real):
    """The nearest integer, of two that are equally near the even one."""
    return round(real)


def rounded_by_words(real, digits):
    """The fraction, which is above 0, rounded to so many digits by the words of section 4."""
    step = power(10, decade_by_trying(real) + 1 - digits)
    return nearest_even(real / step) * step
